import PyProof.Rows.All
import Wide.All
import OpenK.AllK
import Wide.FinOn
import PyProof.EqAt
import PyProof.EqKinds
import PyProof.TupleCall
import KE.BitLaws
import PySem.Challenge.RW_jobqueue_s01_answers
import KE.KDictSum
import PyProof.Rows.SortShellAny
import PyProof.Rows.InDataRows
import KE.KLam
import KE.KMinKey
import KE.KSortKeyAny
import KE.KSortTupAny
import KE.KSortTupG
import KE.OsGo
import KE.KNestM
import Open.SpecLaws
section
set_option autoImplicit false
namespace Jq
open Vbbhaj
theorem vM{p:Int}{x:Nat×Nat}(h:PyVbbhaj.shape p=some x):0≤p∧p≤25:=by
 by_cases hr:0≤p∧p≤25
 ·exact hr
 ·exfalso
  unfold PyVbbhaj.shape at h
  repeat rw[if_neg (by omega)]at h
  cases h
end Jq
end
section
set_option Elab.async false
set_option linter.all false
set_option maxRecDepth 100000
namespace L2
open PySem PySem.Spec PyProof.Rows
abbrev Key:=Sum Int Str
def J8:Key→Value→Bool
 |.inl k,v=>Value.isInt k v
 |.inr x,v=>Value.isStrOf x v
def aeo(w:World):Key→Int
 |.inl k=>hashInt k
 |.inr x=>hashStr w x
theorem gD:∀{k:Key} {v:Value},J8 k v=true→(∃i t,k=Sum.inl i∧v=Value.int i t)∨(∃x t,k=Sum.inr x∧v=Value.str x t)
 |.inl i,v,h=>by
  obtain⟨t,e⟩:=Value.isInt_shape (k:=i) (v:=v) h
  exact .inl ⟨i,t,rfl,e⟩
 |.inr x,v,h=>by
  obtain⟨t,e⟩:=Value.isStrOf_shape (x:=x) (v:=v) h
  exact .inr ⟨x,t,rfl,e⟩
theorem Yh(i:Int)(t:Tok):J8 (.inl i) (.int i t)=true:=by simp[J8,Value.isInt]
theorem ac4(a b:Int):decide ((Sum.inl a:Key)=Sum.inl b)=(a==b):=by
 by_cases e:a=b
 ·subst e;simp
 ·have h:¬(Sum.inl a:Key)=Sum.inl b:=fun q=>e (Sum.inl.inj q)
  rw[decide_eq_false h]
  exact(beq_eq_false_iff_ne.mpr e).symm
theorem ac8(a b:Str):decide ((Sum.inr a:Key)=Sum.inr b)=decide (a=b):=by
 by_cases e:a=b
 ·subst e;simp
 ·have h:¬(Sum.inr a:Key)=Sum.inr b:=fun q=>e (Sum.inr.inj q)
  rw[decide_eq_false h,decide_eq_false e]
theorem ac5(a:Int)(b:Str):decide ((Sum.inl a:Key)=Sum.inr b)=false:=decide_eq_false (fun q=>nomatch q)
theorem ac7(a:Str)(b:Int):decide ((Sum.inr a:Key)=Sum.inl b)=false:=decide_eq_false (fun q=>nomatch q)
def e_(prog:Program)(w:World):PySem.KeyKind prog w Key where
 is:=J8
 hash:=aeo w
 inj:=fun v a b ha hb=>by
  rcases gD ha with ⟨i,t,rfl,rfl⟩|⟨x,t,rfl,rfl⟩
  ·rcases gD hb with ⟨j,u,rfl,e⟩ | ⟨y,u,rfl,e⟩
   ·injection e with e1 _;rw[e1]
   ·exact nomatch e
  ·rcases gD hb with ⟨j,u,rfl,e⟩ | ⟨y,u,rfl,e⟩
   ·exact nomatch e
   ·injection e with e1 _;rw[e1]
 byValue:=fun k v h=>by
  rcases gD h with ⟨i,t,rfl,rfl⟩|⟨x,t,rfl,rfl⟩<;>rfl
 pyHash:=fun hv h=>by
  rcases gD hv with ⟨i,t,rfl,rfl⟩|⟨x,t,rfl,rfl⟩
  ·exact wpAny_pyHash_int h
  ·exact wpAny_pyHash_str h
 eqBool:=fun hu hv h=>by
  rcases gD hu with ⟨i,t,rfl,rfl⟩|⟨x,t,rfl,rfl⟩
  ·rcases gD hv with ⟨j,u,rfl,rfl⟩ | ⟨y,u,rfl,rfl⟩
   ·rw[ac4]at h;exact wpAny_eqBool_int h
   ·rw[ac5]at h;exact SeqAt.EqAt.int_str i t y u _ _ _ _ h
  ·rcases gD hv with ⟨j,u,rfl,rfl⟩ | ⟨y,u,rfl,rfl⟩
   ·rw[ac7]at h;exact SeqAt.EqAt.str_int x t j u _ _ _ _ h
   ·rw[ac8]at h;exact wpAny_eqBool_str h
 «strs»:=fun k x t v h=>by
  rcases gD h with ⟨i,u,rfl,e⟩|⟨y,u,rfl,e⟩
  ·exact nomatch e
  ·injection e with e1 _
   subst e1
   cases v<;>rfl
theorem zH(prog:Program)(w:World)(i:Int)(t:Tok):(e_ prog w).is (.inl i) (.int i t)=true:=Yh i t
end L2
namespace L2
open PySem PySem.Spec PyProof.Rows
inductive V where
 |non | bl (b:Bool) | int (i:Int) | str (x:Str) | byt (b:Array UInt8) | flt (b:UInt64) | ref (a:Addr) | ty (n:String)
 deriving DecidableEq
def RelV:V→Value→Prop
 |.non,u=>u=Value.none
 |.bl b,u=>u=Value.bool b
 |.int i,u=>∃t,u=Value.int i t
 |.str x,u=>∃t,u=Value.str x t
 |.byt b,u=>∃t,u=Value.bytes b t
 |.flt b,u=>∃t,u=Value.float b t
 |.ref a,u=>u=Value.ref a
 |.ty n,u=>u=Value.type n
abbrev Vals:List V→List Value→Prop:=Paired RelV
inductive HO where
 |lst (xs:List V)
 |tup (xs:List V)
 |dK (kvs:List (Key×V)) | dT (kvs:List (List Key×V))
 |set (S:Int→Bool) (n:Nat)
 |ins (C dx:Addr) (fs:List (Str×V))
 |own (x:Addr)
 |xd (fs:List (Str×V))
 |met (f x:Addr)
 |rng (lo hi:Int)
 |frz (o:Obj) (u:HO)
 |tbl (ps:Array Value)
 |ext (φ:Heap→Prop)
abbrev Hp:=Addr→Option HO
def Rd(H:Hp)(a:Addr)(u:HO):Prop:=H a=some u∨∃o,H a=some (.frz o u)
end L2
namespace L2
open PySem PySem.Spec PyProof.Rows
def SqT(K:PySem.W.Frag)(H:Hp)(a:Addr)(xs:List V):Prop :=
 Rd H a (.tup xs) ∨
  ∃(o:Obj) (its:Array Value) (n:Nat),K.lookup a=some o∧o.cls=.type "tuple"∧o.data=.seq its n∧its.size≤sizeLine∧Vals xs its.toList
end L2
namespace L2
open PySem PySem.Spec PyProof.Rows
structure Cls(K:PySem.W.Frag)(C:Addr):Prop where
 pg:PySem.W.plainGet K C Str.empty=true
 hd:PySem.W.hasDictIn K C=true
 po:PySem.W.plainOver K C=true
 sa:PySem.W.findIn K (.ref C) "__setattr__" = some (some (.builtin "object.__setattr__"))
def cJ(K:PySem.W.Frag)(C:Addr)(f:Str):Prop:=PySem.W.findIn K (.ref C) f=some none
structure Meth(K:PySem.W.Frag)(C:Addr)(m:Str)(f:Addr):Prop where
 at_:PySem.W.findIn K (.ref C) m=some (some (.ref f))
 fn:PySem.W.isFn K (.ref f)=true
 kp:PySem.W.keepIn K (.ref f)=true
end L2
namespace L2
open PySem PySem.Spec PyProof.Rows
def Binds(K:PySem.W.Frag)(fd:FuncData)(ps:List Str)(ds:List Value):Prop :=
 ∀(s:Shared) (us:List Value),K.In s.heap→(us++ds).length=ps.length→BindsTo s fd ⟨us,[]⟩ (ps.zip (us++ds))
theorem Binds.all{K:PySem.W.Frag}{fd:FuncData}{ps:List Str}(h:∀us:List Value,us.length=ps.length→bindArgs fd ⟨us,[]⟩=pure (ps.zip us)):Binds K fd ps []:=fun s us _ hl=>by
 rw[List.append_nil]at hl ⊢
 exact .of_eq (h us hl)
section
variable {k:Nat}{f C:Addr}{fd:FuncData}{ps:List Str}{sp:Sp}{dvs:List V}{ds:List Value}{x m:Str}{p pos apos:Pos}{e o:Expr}{es:List Expr}{ta:TE}{t:TA}
structure Mk(K:PySem.W.Frag)(C f:Addr):Prop where
 makes:PySem.W.makesIn K C=true
 init:PySem.W.findIn K (.ref C) "__init__" = some (some (.ref f))
 fn:PySem.W.isFn K (.ref f)=true
 kp:PySem.W.keepIn K (.ref C)=true
end
end L2
namespace L2
open PySem PySem.Spec PyProof.Rows
def inClass(s:Stmt)(j:Nat):Stmt:=match s with
 |.ClassDef _ _ _ body _ _ _ _ _ _ _=>body.getD j (.Pass ⟨0,0,0,0⟩)
 |_=>.Pass ⟨0,0,0,0⟩
def kI(s:Stmt):Arguments:=match s with
 |.FunctionDef _ a _ _ _ _ _ _ _ _=>a
 |_=>{posonlyargs:=[],args:=[],vararg:=none,kwonlyargs:=[],kw_defaults:=[],kwarg:=none,defaults:=[]}
def iu(s:Stmt):List Stmt:=match s with
 |.FunctionDef _ _ b _ _ _ _ _ _ _=>b
 |_=>[]
def aA(s:Stmt):Scope:=match s with
 |.FunctionDef _ _ _ _ _ _ sc _ _ _=>sc
 |_=>{kind:=.function,names:=[],isGenerator:=false,isCoroutine:=false}
structure Fun(K:PySem.W.Frag)(x qual:Str)(st:Stmt)(f:Addr)(fd:FuncData):Prop where
 ex:∃(oc:Value) (od:Option Addr) (kV doc pm:Value) (an:Option Addr) (cdv ct:Value) (osl:Array (Option Value)),
  fd=PySem.W.fnOf x qual (kI st) (iu st) (aA st) .none kV doc pm an cdv ct∧K.lookup f=some ⟨oc,od,.func fd,osl⟩∧PySem.W.codeIn K cdv qual=true
 kp:PySem.W.keepIn K (.ref f)=true
section
variable {P:Program}{w:World}{K:PySem.W.Frag}{mg:Str→Option Value}{base:Heap}
theorem Fun.binds{x qual:Str}{st:Stmt}{f:Addr}{fd:FuncData}{ps:List Str}(F:Fun K x qual st f fd)
  (h:∀(kV doc pm:Value) (an:Option Addr) (cdv ct:Value) (us:List Value),us.length=ps.length→bindArgs (PySem.W.fnOf x qual (kI st) (iu st) (aA st) .none kV doc pm an cdv ct) ⟨us,[]⟩=pure (ps.zip us)):Binds K fd ps []:=by
 obtain⟨oc,od,kV,doc,pm,an,cdv,ct,osl,rfl,lk,hcd⟩:=F.ex
 exact .all (h kV doc pm an cdv ct)
theorem Qh{x qual:Str}{st:Stmt}{f:Addr}{oc:Value}{od an:Option Addr}{osl:Array (Option Value)}{kV doc pm cdv ct:Value}(l:K.lookup f=some ⟨oc,od,.func (PySem.W.fnOf x qual (kI st) (iu st) (aA st) .none kV doc pm an cdv ct),osl⟩)
  (c:PySem.W.codeIn K cdv qual=true) (k:PySem.W.keepIn K (.ref f)=true):Fun K x qual st f (PySem.W.fnOf x qual (kI st) (iu st) (aA st) .none kV doc pm an cdv ct):=⟨⟨oc,od,kV,doc,pm,an,cdv,ct,osl,rfl,l,c⟩,k⟩
end
end L2
end
section
set_option Elab.async false
set_option linter.all false
set_option maxRecDepth 100000
namespace Jq
open PySem PySem.Spec PyProof.Rows L2
structure bW(K:PySem.W.Frag)(mg:Str→Option Value)(x qual:Str)(st:Stmt)(ps:List Str) where
 f:Addr
 fd:FuncData
 F:Fun K x qual st f fd
 b:Binds K fd ps []
 g:mg x=some (.ref f)
structure Jd(K:PySem.W.Frag)(C:Addr)(x qual:Str)(st:Stmt)(ps:List Str) where
 f:Addr
 fd:FuncData
 F:Fun K x qual st f fd
 b:Binds K fd ps []
 m:Meth K C x f
structure T9(K:PySem.W.Frag)(mg:Str→Option Value)(C:Addr)(x:Str)(f:Addr):Prop where
 M:Mk K C f
 g:mg x=some (.ref C)
structure Za(K:PySem.W.Frag)(mg:Str→Option Value):Prop where
 at_:True
def top(i:Nat):Stmt:=PySem.Challenge.pw_jobqueue_s01_answers.main.body.getD i (.Pass ⟨0,0,0,0⟩)
abbrev G8:Stmt:=top 7
abbrev QZ:Stmt:=top 8
abbrev QX:Stmt:=top 9
abbrev rM:Stmt:=top 10
abbrev Ah:Stmt:=top 11
abbrev vp:Stmt:=top 12
abbrev tY:Stmt:=top 13
abbrev Dz:Stmt:=top 14
abbrev Al:Stmt:=top 15
abbrev Aj:Stmt:=top 16
abbrev tX:Stmt:=top 17
abbrev yC:Stmt:=top 18
abbrev Ai:Stmt:=top 19
abbrev DK:Stmt:=top 20
abbrev rK:Stmt:=top 21
abbrev ph:Stmt:=top 22
abbrev qF:Stmt:=top 23
abbrev DN:Stmt:=top 24
abbrev Dw:Stmt:=top 25
abbrev yz:Stmt:=top 39
abbrev Ak:Stmt:=top 40
abbrev G9:Stmt:=top 41
abbrev DP:Stmt:=top 42
abbrev G_:Stmt:=top 43
abbrev vN:Stmt:=top 47
abbrev oA:Stmt:=top 48
abbrev iD:Stmt:=top 49
abbrev qD:Stmt:=top 60
abbrev vq:Stmt:=top 62
abbrev wK:Stmt:=top 63
abbrev vo:Stmt:=top 64
abbrev wJ:Stmt:=top 65
abbrev o_:Stmt:=top 67
abbrev iU:Stmt:=top 68
abbrev wI:Stmt:=top 69
abbrev Dy:Stmt:=top 70
abbrev lW:Stmt:=top 72
abbrev jL:Stmt:=top 73
abbrev iR:Stmt:=top 74
abbrev yD:Stmt:=top 75
abbrev pq:Stmt:=top 77
abbrev lY:Stmt:=top 78
abbrev jO:Stmt:=top 79
abbrev jN:Stmt:=top 80
abbrev Ln:Stmt:=top 81
abbrev Lk:Stmt:=top 82
abbrev wL:Stmt:=top 83
abbrev rN:Stmt:=top 84
abbrev Li:Stmt:=top 85
abbrev DR:Stmt:=top 86
abbrev Jc:Stmt:=top 87
abbrev Q0:Stmt:=top 88
abbrev G6:Stmt:=top 89
abbrev DQ:Stmt:=top 90
abbrev g8:Stmt:=top 93
abbrev Lh:Stmt:=top 94
abbrev nG:Stmt:=top 95
abbrev DG:Stmt:=top 96
abbrev lX:Stmt:=top 97
abbrev Hd:Stmt:=top 98
abbrev Am:Stmt:=top 99
abbrev QW:Stmt:=top 100
abbrev Lj:Stmt:=top 101
abbrev G5:Stmt:=top 102
abbrev G4:Stmt:=top 103
abbrev G7:Stmt:=top 104
abbrev Q4:Stmt:=top 105
abbrev oE:Stmt:=top 107
abbrev su:Stmt:=top 108
abbrev dN:Stmt:=top 109
abbrev jM:Stmt:=top 110
abbrev vA:Stmt:=top 111
abbrev wN:Stmt:=top 112
abbrev uw:Stmt:=top 113
abbrev sE:Stmt:=top 114
abbrev tZ:Stmt:=top 115
abbrev vz:Stmt:=top 116
abbrev qG:Stmt:=top 117
abbrev wM:Stmt:=top 118
abbrev qC:Stmt:=top 150
abbrev lV:Stmt:=top 151
abbrev jm:Stmt:=top 152
abbrev o9:Stmt:=top 153
abbrev lU:Stmt:=top 154
abbrev wH:Stmt:=top 155
abbrev Dv:Stmt:=top 156
abbrev Ag:Stmt:=inClass (top 38) 0
abbrev qz:Stmt:=inClass (top 45) 0
abbrev wG:Stmt:=inClass (top 46) 0
abbrev vh:Stmt:=inClass (top 46) 1
abbrev vm:Stmt:=inClass (top 149) 0
abbrev nA:Stmt:=inClass (top 149) 1
abbrev kh:Stmt:=inClass (top 149) 2
abbrev o8:Stmt:=inClass (top 149) 3
set_option genInjectivity false in
set_option genSizeOf false in
structure Txt(K:PySem.W.Frag)(mg:Str→Option Value) where
 gU:Addr
 bV:Addr
 dR:Addr
 h_:Addr
 w6:bW K mg "is_cap" "is_cap" G8 ["n"]
 Ge:bW K mg "is_k" "is_k" QZ ["n"]
 Gd:bW K mg "is_a" "is_a" QX ["n"]
 fZ:bW K mg "is_job_number" "is_job_number" rM ["n"]
 fY:bW K mg "is_class" "is_class" Ah ["n"]
 iK:bW K mg "is_priority" "is_priority" vp ["n"]
 gJ:bW K mg "is_yes_or_no" "is_yes_or_no" tY ["n"]
 qM:bW K mg "is_code" "is_code" Dz ["n"]
 qP:bW K mg "is_ticks" "is_ticks" Al ["n"]
 qO:bW K mg "is_limit" "is_limit" Aj ["n"]
 dX:bW K mg "is_initiator" "is_initiator" tX ["n"]
 k_:bW K mg "is_letter" "is_letter" yC ["byte"]
 qN:bW K mg "is_digit" "is_digit" Ai ["byte"]
 uz:bW K mg "is_name" "is_name" DK ["row"]
 g_:bW K mg "is_class_list" "is_class_list" rK ["row"]
 fV:bW K mg "is_row_of_tests" "is_row_of_tests" ph ["row"]
 iM:bW K mg "split_tests" "split_tests" qF ["row"]
 uA:bW K mg "is_test" "is_test" DN ["job","kind","n"]
 dJ:bW K mg "counted" "counted" Dw ["row"]
 jt:bW K mg "has_ended" "has_ended" yz ["job"]
 lg:bW K mg "is_ready" "is_ready" Ak ["job"]
 kZ:bW K mg "is_due" "is_due" G9 ["job"]
 pF:bW K mg "rank_of" "rank_of" DP ["job","a"]
 xf:bW K mg "is_met" "is_met" G_ ["kind","n","state","code"]
 gH:bW K mg "all_jobs" "all_jobs" vN ["board"]
 dZ:bW K mg "running_jobs" "running_jobs" oA ["board"]
 cz:bW K mg "how_many_of_class" "how_many_of_class" iD ["jobs","class_of"]
 cQ:bW K mg "refusal_of_job" "refusal_of_job" qD ["board","number"]
 jU:bW K mg "limit_class" "limit_class" vq ["board","class_of","n"]
 jD:bW K mg "set_closed" "set_closed" wK ["board","class_of","closed"]
 jT:bW K mg "close_class" "close_class" vo ["board","class_of"]
 mC:bW K mg "open_class" "open_class" wJ ["board","class_of"]
 dW:bW K mg "has_failed_test" "has_failed_test" o_ ["jobs","tests"]
 dF:bW K mg "tests_still_open" "tests_still_open" iU ["jobs","tests"]
 jB:bW K mg "mark_ended" "mark_ended" wI ["job","state","code"]
 qL:bW K mg "end_job" "end_job" Dy ["jobs","job","state","code"]
 eQ:bW K mg "lets_one_more_run" "lets_one_more_run" lW ["board","class_of","running"]
 kY:bW K mg "free_jobs" "free_jobs" jL ["board","initiator"]
 dU:bW K mg "chosen_job" "chosen_job" iR ["board","initiator","free"]
 pC:bW K mg "pass_over" "pass_over" yD ["board","jobs"]
 dY:bW K mg "refusal_of_list" "refusal_of_list" pq ["number","classes"]
 dq:bW K mg "refusal_unless_on" "refusal_unless_on" lY ["board","number"]
 cX:bW K mg "refusal_unless_idle" "refusal_unless_idle" jO ["board","number"]
 cW:bW K mg "refusal_unless_busy" "refusal_unless_busy" jN ["board","number"]
 Bb:bW K mg "start" "start" Ln ["board","number","classes"]
 Ba:bW K mg "serve" "serve" Lk ["board","number","classes"]
 jE:bW K mg "switch_off" "switch_off" wL ["initiator"]
 gf:bW K mg "take_job_away" "take_job_away" rN ["initiator"]
 Az:bW K mg "drain" "drain" Li ["board","number"]
 uC:bW K mg "run_job" "run_job" DR ["initiator","job"]
 Gg:bW K mg "pick" "pick" Jc ["board","number"]
 Gf:bW K mg "peek" "peek" Q0 ["board","number"]
 wY:bW K mg "finish" "finish" G6 ["board","number","abend","code"]
 uB:bW K mg "requeue" "requeue" DQ ["board","number"]
 bO:bW K mg "refusal_of_waiting_job" "refusal_of_waiting_job" g8 ["board","number"]
 Ay:bW K mg "begin" "begin" Lh ["board","cap","k","a"]
 fu:bW K mg "refusal_of_tests" "refusal_of_tests" nG ["board","tests"]
 ux:bW K mg "is_full" "is_full" DG ["board"]
 eU:bW K mg "refusal_of_submit" "refusal_of_submit" lX ["board","class_of","priority","held","name","row"]
 xg:bW K mg "submit" "submit" Hd ["board","class_of","priority","held","name","row"]
 oF:bW K mg "set_held" "set_held" Am ["board","number","held"]
 F_:bW K mg "hold" "hold" QW ["board","number"]
 A_:bW K mg "letgo" "letgo" Lj ["board","number"]
 wX:bW K mg "change" "change" G5 ["board","number","class_of","priority"]
 wW:bW K mg "cancel" "cancel" G4 ["board","number"]
 wZ:bW K mg "forget" "forget" G7 ["board","number"]
 Gh:bW K mg "tick" "tick" Q4 ["board","n"]
 gK:bW K mg "waiting_jobs" "waiting_jobs" oE ["board"]
 jC:bW K mg "ready_jobs" "ready_jobs" su ["board"]
 fJ:bW K mg "tell_order" "tell_order" dN ["board","class_of"]
 fW:bW K mg "place_among_due" "place_among_due" jM ["board","job"]
 jW:bW K mg "tell_status" "tell_status" vA ["board","number"]
 mH:bW K mg "tell_tests" "tell_tests" wN ["board","number"]
 pB:bW K mg "names_job" "names_job" uw ["tests","number"]
 mF:bW K mg "tell_after" "tell_after" sE ["board","number"]
 iW:bW K mg "tell_running" "tell_running" tZ ["board"]
 jV:bW K mg "tell_counts" "tell_counts" vz ["board"]
 gG:bW K mg "tell_initiator" "tell_initiator" qG ["board","number"]
 mG:bW K mg "tell_class" "tell_class" wM ["board","class_of"]
 gF:bW K mg "answer_on_jobs" "answer_on_jobs" qC ["board","call","numbers","rows"]
 eO:bW K mg "answer_on_classes" "answer_on_classes" lV ["board","call","numbers"]
 dg:bW K mg "answer_on_initiators" "answer_on_initiators" jm ["board","call","numbers","rows"]
 fU:bW K mg "answer_question" "answer_question" o9 ["board","call","numbers"]
 jR:bW K mg "answer_next" "answer_next" lU ["board","reader"]
 mz:bW K mg "answers_on" "answers_on" wH ["board","calls"]
 mq:bW K mg "answers" "answers" Dv ["calls"]
 kW:Jd K gU "__init__" "Job.__init__" Ag ["self","number","name","class_of","priority","held","tests"]
 dH:Jd K bV "__init__" "Initiator.__init__" qz ["self"]
 ir:Jd K dR "__init__" "Board.__init__" wG ["self","cap","k","a"]
 iJ:Jd K dR "renew" "Board.renew" vh ["self","cap","k","a"]
 gB:Jd K h_ "__init__" "Reader.__init__" vm ["self","calls"]
 fj:Jd K h_ "is_at_end" "Reader.is_at_end" nA ["self"]
 cG:Jd K h_ "take_number" "Reader.take_number" kh ["self"]
 fQ:Jd K h_ "take_row" "Reader.take_row" o8 ["self"]
 bQ:Cls K gU
 Z5:T9 K mg gU "Job" kW.f
 uv:cJ K gU "number"
 uN:cJ K gU "name"
 lA:cJ K gU "class_of"
 lB:cJ K gU "priority"
 oH:cJ K gU "held"
 iy:cJ K gU "tests"
 lC:cJ K gU "state"
 uM:cJ K gU "code"
 pP:cJ K gU "waited"
 eF:cJ K gU "passed_over"
 gP:cJ K gU "due_turn"
 bC:Cls K bV
 zE:T9 K mg bV "Initiator" dH.f
 i_:cJ K bV "on"
 du:cJ K bV "classes"
 cH:cJ K bV "draining"
 fC:cJ K bV "runs"
 bN:Cls K dR
 Qm:T9 K mg dR "Board" ir.f
 vJ:cJ K dR "cap"
 Bj:cJ K dR "k"
 uD:cJ K dR "a"
 pM:cJ K dR "time"
 ur:cJ K dR "jobs"
 gq:cJ K dR "last_number"
 fc:cJ K dR "last_due_turn"
 lz:cJ K dR "limits"
 lu:cJ K dR "closed"
 gO:cJ K dR "initiators"
 dz:Cls K h_
 J7:T9 K mg h_ "Reader" gB.f
 jc:cJ K h_ "calls"
 eG:cJ K h_ "place"
 xW:∃t,mg "LAST_JOB" = some (.int (999999) t)
 uh:∃t,mg "LAST_CLASS" = some (.int (36) t)
 lZ:∃t,mg "LAST_INITIATOR" = some (.int (16) t)
 xX:∃t,mg "MOST_TESTS" = some (.int (8) t)
 jz:∃t,mg "MOST_CLASSES_IN_LIST" = some (.int (8) t)
 uI:∃t,mg "LONGEST_NAME" = some (.int (8) t)
 l_:∃t,mg "WAITING" = some (.int (0) t)
 nM:∃t,mg "RUNNING_job" = some (.int (1) t)
 ik:∃t,mg "ENDED_WITH_CODE" = some (.int (2) t)
 iV:∃t,mg "ENDED_BY_ABEND" = some (.int (3) t)
 FQ:∃t,mg "FLUSHED" = some (.int (4) t)
 zg:∃t,mg "CANCELLED" = some (.int (5) t)
 sZ:∃t,mg "AFTER_ANY_END" = some (.int (0) t)
 kJ:∃t,mg "AFTER_CODE_AT_MOST" = some (.int (1) t)
 gw:∃t,mg "AFTER_CODE_ABOVE_OR_ABEND" = some (.int (2) t)
 vP:∃t,mg "AFTER_ABEND" = some (.int (3) t)
 tD:∃t,mg "GREATEST_RANK" = some (.int (15) t)
 aW:∃t,mg "NOT_REFUSED" = some (.int (0) t)
 bH:∃t,mg "OUT_OF_RANGE" = some (.int (-1) t)
 xV:∃t,mg "BAD_FORM" = some (.int (-2) t)
 kO:∃t,mg "NO_INITIATOR" = some (.int (-3) t)
 Eg:∃t,mg "NO_JOB" = some (.int (-4) t)
 jA:∃t,mg "SO_ALREADY" = some (.int (-5) t)
 rP:∃t,mg "WRONG_STATE" = some (.int (-6) t)
 vQ:∃t,mg "TEST_FAILED" = some (.int (-7) t)
 Av:∃t,mg "NO_ROOM" = some (.int (-8) t)
 zp:∃t,mg "LAST_TIME" = some (.int (100000000) t)
 zj:∃t,mg "FIRST_CAP" = some (.int (500) t)
 FP:∃t,mg "FIRST_K" = some (.int (10) t)
 FN:∃t,mg "FIRST_A" = some (.int (60) t)
 Pk:∃t,mg "BEGIN" = some (.int (0) t)
 JG:∃t,mg "SUBMIT" = some (.int (1) t)
 Ut:∃t,mg "HOLD" = some (.int (2) t)
 Pr:∃t,mg "LETGO" = some (.int (3) t)
 Jz:∃t,mg "CHANGE" = some (.int (4) t)
 Jy:∃t,mg "CANCEL" = some (.int (5) t)
 JD:∃t,mg "FORGET" = some (.int (6) t)
 Ux:∃t,mg "TICK" = some (.int (7) t)
 Pu:∃t,mg "LIMIT" = some (.int (8) t)
 Pn:∃t,mg "CLOSE" = some (.int (9) t)
 Uu:∃t,mg "OPEN" = some (.int (10) t)
 Pz:∃t,mg "START" = some (.int (11) t)
 Py:∃t,mg "SERVE" = some (.int (12) t)
 Pq:∃t,mg "DRAIN" = some (.int (13) t)
 Uw:∃t,mg "PICK" = some (.int (14) t)
 Uv:∃t,mg "PEEK" = some (.int (15) t)
 JC:∃t,mg "FINISH" = some (.int (16) t)
 FT:∃t,mg "REQUEUE" = some (.int (17) t)
 Px:∃t,mg "ORDER" = some (.int (18) t)
 JF:∃t,mg "STATUS" = some (.int (19) t)
 PB:∃t,mg "TESTS" = some (.int (20) t)
 Pj:∃t,mg "AFTER" = some (.int (21) t)
 uJ:∃t,mg "RUNNING_desk" = some (.int (22) t)
 JB:∃t,mg "COUNTS" = some (.int (23) t)
 zm:∃t,mg "INITIATOR" = some (.int (24) t)
 jo:mg "len" = none
 Hi:mg "list" = none
 vD:mg "sorted" = none
 yH:mg "range" = none
 T7:mg "min" = none
 abf:mg "set" = none
 abe:mg "any" = none
 OJ:mg "int" = none
 mQ:Addr
 mR:Addr
 sh:Za K mg
end Jq
end
section
set_option Elab.async false
set_option linter.all false
set_option maxRecDepth 100000
set_option maxHeartbeats 1000000
namespace Jq
open PySem PySem.Spec PyProof.Rows L2
def yU(K:PySem.W.Frag)(mg:Str→Option Value):Prop:=∃(a:Addr) (vs:List (Key×Value)),mg "SHAPES" = some (.ref a)∧(∀(P:Program) (w:World) (h:Heap),K.In h→h.DictOf (e_ P w) a vs)∧∀(p:Int) (n k:Nat),PyVbbhaj.shape p=some (n,k)→∃t,valueAt vs (Sum.inl p:Key)=some (.ref t)∧∀H:Hp,SqT K H t [.int n,.int k]
end Jq
end
section
set_option Elab.async false
set_option linter.all false
set_option maxRecDepth 100000
set_option maxHeartbeats 1000000
namespace Jq
open PySem PySem.Spec PyProof.Rows L2
open PySem.W (WData Codec OpenSpec Well WellAll ReadsW ReadsAllW)
def Vo(K:PySem.W.Frag):Bool:=K.all fun p=>match p.2.cls with
 |.type n=>!(n=="list")
 |_=>true
def ab6:List DictEntry→Option (List (Int×Addr))
 |[]=>some []
 |e::r=>match e.key,e.val,ab6 r with
  |.int n _,.ref t,some l=>if e.hash=hashInt n then some ((n,t)::l)else none
  |_,_,_=>none
theorem Le(P:Program)(w:World):∀{es:List DictEntry} {l:List (Int×Addr)},ab6 es=some l→(∀e∈es,∃k,(e_ P w).is k e.key=true∧e.hash=(e_ P w).hash k)∧Pairs (e_ P w) es (l.map fun q=>((Sum.inl q.1:Key),Value.ref q.2))
 |[],l,h=>by
  cases h
  exact⟨fun e m=>absurd m (by simp),.nil⟩
 |e::r,l,h=>by
  unfold ab6 at h
  split at h
  ·rename_i n tk t l' hk hv hr
   split at h
   ·rename_i hh
    cases h
    obtain⟨i1,i2⟩:=Le P w hr
    refine⟨fun e' m=>?_,.cons (by rw[hk];exact zH P w n tk) hv i2⟩
    rcases List.mem_cons.mp m with z|z
    ·rw[z,hk]
     exact⟨Sum.inl n,zH P w n tk,hh⟩
    ·exact i1 _ z
   ·cases h
  ·cases h
def aa7(K:PySem.W.Frag)(t:Addr)(n k:Nat):Bool:=match K.lookup t with
 |some o=>o.cls==.type "tuple"&&(match o.data with
  |.seq its _=>(match its.toList with
   |[.int x _,.int y _]=>x==(n:Int)&&y==(k:Int)
   |_=>false)
  |_=>false)
 |none=>false
theorem aa8{K:PySem.W.Frag}{t:Addr}{n k:Nat}(h:aa7 K t n k=true)(H:Hp):SqT K H t [.int n,.int k]:=by
 unfold aa7 at h
 split at h
 ·rename_i o hk
  obtain⟨h1,h2⟩:=Bool.and_eq_true_iff.mp h
  split at h2
  ·rename_i its m hd
   split at h2
   ·rename_i x tx y ty hl
    obtain⟨h3,h4⟩:=Bool.and_eq_true_iff.mp h2
    have ex:x=(n:Int):=beq_iff_eq.mp h3
    have ey:y=(k:Int):=beq_iff_eq.mp h4
    subst ex ey
    refine .inr ⟨o,its,m,hk,beq_iff_eq.mp h1,hd,?_,?_⟩
    ·rw[← Array.length_toList,hl]
     show 2≤sizeLine
     decide
    ·rw[hl]
     exact .cons ⟨_,rfl⟩ (.cons ⟨_,rfl⟩ .nil)
   ·cases h2
  ·cases h2
 ·cases h
def ad_(K:PySem.W.Frag)(l:List (Int×Addr)):Bool:=(List.range 26).all fun i=>match PyVbbhaj.shape (i:Int),l.lookup (i:Int)with
 |some (n,k),some t=>aa7 K t n k
 |none,_=>true
 |_,none=>false
def Lf(K:PySem.W.Frag)(a:Addr):Bool:=match K.lookup a with
 |some o=>o.cls==.type "dict"&&o.dict.isNone&&o.slots.isEmpty&&(match o.data with
  |.dict es _=>(match ab6 es.toList with
   |some l=>decide ((l.map (·.1)).Nodup)&&ad_ K l
   |none=>false)
  |_=>false)
 |none=>false
theorem LC:∀{l:List (Int×Addr)} {p:Int} {t:Addr},l.lookup p=some t→valueAt (l.map fun q=>((Sum.inl q.1:Key),Value.ref q.2)) (Sum.inl p:Key)=some (.ref t)
 |[],p,t,h=>by cases h
 |(n,u)::r,p,t,h=>by
  rw[List.lookup_cons]at h
  unfold valueAt
  rw[List.map_cons,List.find?_cons]
  cases q:p==n with
  |true =>
   rw[q]at h
   cases h
   rw[beq_iff_eq.mp q,decide_eq_true rfl]
   rfl
  |false =>
   rw[q]at h
   have ne:¬(Sum.inl n:Key)=Sum.inl p:=fun z=>by
    rw[Sum.inl.inj z,beq_self_eq_true]at q
    cases q
   rw[decide_eq_false ne]
   exact LC h
theorem YL{K:PySem.W.Frag}{mg:Str→Option Value}{a:Addr}(hm:mg "SHAPES" = some (.ref a))(h:Lf K a=true):yU K mg:=by
 unfold Lf at h
 split at h
 ·rename_i o hk
  obtain⟨h,h4⟩:=Bool.and_eq_true_iff.mp h
  obtain⟨h,h3⟩:=Bool.and_eq_true_iff.mp h
  obtain⟨h1,h2⟩:=Bool.and_eq_true_iff.mp h
  split at h4
  ·rename_i es ep hd
   split at h4
   ·rename_i l hl
    obtain⟨h5,h6⟩:=Bool.and_eq_true_iff.mp h4
    refine⟨a,l.map fun q=>((Sum.inl q.1:Key),Value.ref q.2),hm,fun P w h KX=>?_,fun p n k hs=>?_⟩
    ·obtain⟨i1,i2⟩:=Le P w hl
     refine⟨o,es,ep,KX a o hk,⟨beq_iff_eq.mp h1,Option.isNone_iff_eq_none.mp h2,Array.isEmpty_iff.mp h3⟩,hd,fun e m=>i1 e (Array.mem_toList_iff.mpr m),i2,?_⟩
     rw[List.map_map]
     have:=of_decide_eq_true h5
     rw[show((fun x:Key×Value=>x.1)∘fun q:Int×Addr=>((Sum.inl q.1:Key),Value.ref q.2))=(fun z:Int=>(Sum.inl z:Key))∘(fun x:Int×Addr=>x.1)from rfl,← List.map_map]
     exact List.pairwise_map.mpr (List.Pairwise.imp (fun ne z=>ne (Sum.inl.inj z)) this)
    ·obtain⟨g1,g2⟩:=vM hs
     obtain⟨i,rfl⟩:∃i:Nat,p=(i:Int):=⟨p.toNat,by omega⟩
     have:=List.all_eq_true.mp h6 i (List.mem_range.mpr (by omega))
     rw[hs]at this
     cases q:l.lookup (i:Int)with
     |none =>
      rw[q]at this
      cases this
     |some t =>
      rw[q]at this
      exact⟨t,LC q,fun H=>aa8 this H⟩
   ·cases h4
  ·cases h4
 ·cases h
def aM(x qual:Str)(st:Stmt)(ps:List Str):Prop:=∀(kV doc pm:Value) (an:Option Addr) (cdv ct:Value) (us:List Value),us.length=ps.length→bindArgs (PySem.W.fnOf x qual (kI st) (iu st) (aA st) .none kV doc pm an cdv ct) ⟨us,[]⟩=pure (ps.zip us)
theorem cons_of{n:Nat}{us:List Value}(h:us.length=n+1):∃a r,us=a::r∧r.length=n:=by
 cases us with
 |nil=>cases h
 |cons a r=>exact⟨a,r,rfl,Nat.succ.inj h⟩
theorem bind1{x qual:Str}{st:Stmt}{p0:Str}(h:∀(kV doc pm:Value) (an:Option Addr) (cdv ct a0:Value),bindArgs (PySem.W.fnOf x qual (kI st) (iu st) (aA st) .none kV doc pm an cdv ct) ⟨[a0],[]⟩=pure ([p0].zip [a0])):aM x qual st [p0]:=fun kV doc pm an cdv ct us hl=>by
 obtain⟨a0,r0,rfl,e0⟩:=cons_of hl
 obtain rfl:=List.length_eq_zero_iff.mp e0
 exact h kV doc pm an cdv ct a0
theorem fG{x qual:Str}{st:Stmt}{p0 p1:Str}(h:∀(kV doc pm:Value) (an:Option Addr) (cdv ct a0 a1:Value),bindArgs (PySem.W.fnOf x qual (kI st) (iu st) (aA st) .none kV doc pm an cdv ct) ⟨[a0,a1],[]⟩=pure ([p0,p1].zip [a0,a1])):aM x qual st [p0,p1]:=fun kV doc pm an cdv ct us hl=>by
 obtain⟨a0,r0,rfl,e0⟩:=cons_of hl
 obtain⟨a1,r1,rfl,e1⟩:=cons_of e0
 obtain rfl:=List.length_eq_zero_iff.mp e1
 exact h kV doc pm an cdv ct a0 a1
theorem zc{x qual:Str}{st:Stmt}{p0 p1 p2:Str}(h:∀(kV doc pm:Value) (an:Option Addr) (cdv ct a0 a1 a2:Value),bindArgs (PySem.W.fnOf x qual (kI st) (iu st) (aA st) .none kV doc pm an cdv ct) ⟨[a0,a1,a2],[]⟩=pure ([p0,p1,p2].zip [a0,a1,a2])):aM x qual st [p0,p1,p2]:=fun kV doc pm an cdv ct us hl=>by
 obtain⟨a0,r0,rfl,e0⟩:=cons_of hl
 obtain⟨a1,r1,rfl,e1⟩:=cons_of e0
 obtain⟨a2,r2,rfl,e2⟩:=cons_of e1
 obtain rfl:=List.length_eq_zero_iff.mp e2
 exact h kV doc pm an cdv ct a0 a1 a2
theorem Ef{x qual:Str}{st:Stmt}{p0 p1 p2 p3:Str}(h:∀(kV doc pm:Value) (an:Option Addr) (cdv ct a0 a1 a2 a3:Value),bindArgs (PySem.W.fnOf x qual (kI st) (iu st) (aA st) .none kV doc pm an cdv ct) ⟨[a0,a1,a2,a3],[]⟩=pure ([p0,p1,p2,p3].zip [a0,a1,a2,a3])):aM x qual st [p0,p1,p2,p3]:=fun kV doc pm an cdv ct us hl=>by
 obtain⟨a0,r0,rfl,e0⟩:=cons_of hl
 obtain⟨a1,r1,rfl,e1⟩:=cons_of e0
 obtain⟨a2,r2,rfl,e2⟩:=cons_of e1
 obtain⟨a3,r3,rfl,e3⟩:=cons_of e2
 obtain rfl:=List.length_eq_zero_iff.mp e3
 exact h kV doc pm an cdv ct a0 a1 a2 a3
theorem acd{x qual:Str}{st:Stmt}{p0 p1 p2 p3 p4 p5:Str}(h:∀(kV doc pm:Value) (an:Option Addr) (cdv ct a0 a1 a2 a3 a4 a5:Value),bindArgs (PySem.W.fnOf x qual (kI st) (iu st) (aA st) .none kV doc pm an cdv ct) ⟨[a0,a1,a2,a3,a4,a5],[]⟩=pure ([p0,p1,p2,p3,p4,p5].zip [a0,a1,a2,a3,a4,a5])):aM x qual st [p0,p1,p2,p3,p4,p5]:=fun kV doc pm an cdv ct us hl=>by
 obtain⟨a0,r0,rfl,e0⟩:=cons_of hl
 obtain⟨a1,r1,rfl,e1⟩:=cons_of e0
 obtain⟨a2,r2,rfl,e2⟩:=cons_of e1
 obtain⟨a3,r3,rfl,e3⟩:=cons_of e2
 obtain⟨a4,r4,rfl,e4⟩:=cons_of e3
 obtain⟨a5,r5,rfl,e5⟩:=cons_of e4
 obtain rfl:=List.length_eq_zero_iff.mp e5
 exact h kV doc pm an cdv ct a0 a1 a2 a3 a4 a5
theorem adL{x qual:Str}{st:Stmt}{p0 p1 p2 p3 p4 p5 p6:Str}(h:∀(kV doc pm:Value) (an:Option Addr) (cdv ct a0 a1 a2 a3 a4 a5 a6:Value),bindArgs (PySem.W.fnOf x qual (kI st) (iu st) (aA st) .none kV doc pm an cdv ct) ⟨[a0,a1,a2,a3,a4,a5,a6],[]⟩=pure ([p0,p1,p2,p3,p4,p5,p6].zip [a0,a1,a2,a3,a4,a5,a6])):aM x qual st [p0,p1,p2,p3,p4,p5,p6]:=fun kV doc pm an cdv ct us hl=>by
 obtain⟨a0,r0,rfl,e0⟩:=cons_of hl
 obtain⟨a1,r1,rfl,e1⟩:=cons_of e0
 obtain⟨a2,r2,rfl,e2⟩:=cons_of e1
 obtain⟨a3,r3,rfl,e3⟩:=cons_of e2
 obtain⟨a4,r4,rfl,e4⟩:=cons_of e3
 obtain⟨a5,r5,rfl,e5⟩:=cons_of e4
 obtain⟨a6,r6,rfl,e6⟩:=cons_of e5
 obtain rfl:=List.length_eq_zero_iff.mp e6
 exact h kV doc pm an cdv ct a0 a1 a2 a3 a4 a5 a6
theorem Xu:aM "is_cap" "is_cap" G8 ["n"]:=bind1 fun _ _ _ _ _ _ _=>rfl
theorem abm:aM "is_k" "is_k" QZ ["n"]:=bind1 fun _ _ _ _ _ _ _=>rfl
theorem abl:aM "is_a" "is_a" QX ["n"]:=bind1 fun _ _ _ _ _ _ _=>rfl
theorem Fz:aM "is_job_number" "is_job_number" rM ["n"]:=bind1 fun _ _ _ _ _ _ _=>rfl
theorem Rg:aM "is_class" "is_class" Ah ["n"]:=bind1 fun _ _ _ _ _ _ _=>rfl
theorem Jp:aM "is_priority" "is_priority" vp ["n"]:=bind1 fun _ _ _ _ _ _ _=>rfl
theorem HW:aM "is_yes_or_no" "is_yes_or_no" tY ["n"]:=bind1 fun _ _ _ _ _ _ _=>rfl
theorem Uj:aM "is_code" "is_code" Dz ["n"]:=bind1 fun _ _ _ _ _ _ _=>rfl
theorem Rk:aM "is_ticks" "is_ticks" Al ["n"]:=bind1 fun _ _ _ _ _ _ _=>rfl
theorem Ri:aM "is_limit" "is_limit" Aj ["n"]:=bind1 fun _ _ _ _ _ _ _=>rfl
theorem HS:aM "is_initiator" "is_initiator" tX ["n"]:=bind1 fun _ _ _ _ _ _ _=>rfl
theorem Pb:aM "is_letter" "is_letter" yC ["byte"]:=bind1 fun _ _ _ _ _ _ _=>rfl
theorem Rh:aM "is_digit" "is_digit" Ai ["byte"]:=bind1 fun _ _ _ _ _ _ _=>rfl
theorem Ul:aM "is_name" "is_name" DK ["row"]:=bind1 fun _ _ _ _ _ _ _=>rfl
theorem Fy:aM "is_class_list" "is_class_list" rK ["row"]:=bind1 fun _ _ _ _ _ _ _=>rfl
theorem Cy:aM "is_row_of_tests" "is_row_of_tests" ph ["row"]:=bind1 fun _ _ _ _ _ _ _=>rfl
theorem Js:aM "split_tests" "split_tests" qF ["row"]:=bind1 fun _ _ _ _ _ _ _=>rfl
theorem Um:aM "is_test" "is_test" DN ["job","kind","n"]:=zc fun _ _ _ _ _ _ _ _ _=>rfl
theorem Uh:aM "counted" "counted" Dw ["row"]:=bind1 fun _ _ _ _ _ _ _=>rfl
theorem Pa:aM "has_ended" "has_ended" yz ["job"]:=bind1 fun _ _ _ _ _ _ _=>rfl
theorem Rj:aM "is_ready" "is_ready" Ak ["job"]:=bind1 fun _ _ _ _ _ _ _=>rfl
theorem Xv:aM "is_due" "is_due" G9 ["job"]:=bind1 fun _ _ _ _ _ _ _=>rfl
theorem Uo:aM "rank_of" "rank_of" DP ["job","a"]:=fG fun _ _ _ _ _ _ _ _=>rfl
theorem Xw:aM "is_met" "is_met" G_ ["kind","n","state","code"]:=Ef fun _ _ _ _ _ _ _ _ _ _=>rfl
theorem Rf:aM "all_jobs" "all_jobs" vN ["board"]:=bind1 fun _ _ _ _ _ _ _=>rfl
theorem HX:aM "running_jobs" "running_jobs" oA ["board"]:=bind1 fun _ _ _ _ _ _ _=>rfl
theorem yZ:aM "how_many_of_class" "how_many_of_class" iD ["jobs","class_of"]:=fG fun _ _ _ _ _ _ _ _=>rfl
theorem Ec:aM "refusal_of_job" "refusal_of_job" qD ["board","number"]:=fG fun _ _ _ _ _ _ _ _=>rfl
theorem Jr:aM "limit_class" "limit_class" vq ["board","class_of","n"]:=zc fun _ _ _ _ _ _ _ _ _=>rfl
theorem Mi:aM "set_closed" "set_closed" wK ["board","class_of","closed"]:=zc fun _ _ _ _ _ _ _ _ _=>rfl
theorem Jo:aM "close_class" "close_class" vo ["board","class_of"]:=fG fun _ _ _ _ _ _ _ _=>rfl
theorem Mg:aM "open_class" "open_class" wJ ["board","class_of"]:=fG fun _ _ _ _ _ _ _ _=>rfl
theorem Cw:aM "has_failed_test" "has_failed_test" o_ ["jobs","tests"]:=fG fun _ _ _ _ _ _ _ _=>rfl
theorem Bx:aM "tests_still_open" "tests_still_open" iU ["jobs","tests"]:=fG fun _ _ _ _ _ _ _ _=>rfl
theorem Mf:aM "mark_ended" "mark_ended" wI ["job","state","code"]:=zc fun _ _ _ _ _ _ _ _ _=>rfl
theorem Ui:aM "end_job" "end_job" Dy ["jobs","job","state","code"]:=Ef fun _ _ _ _ _ _ _ _ _ _=>rfl
theorem y_:aM "lets_one_more_run" "lets_one_more_run" lW ["board","class_of","running"]:=zc fun _ _ _ _ _ _ _ _ _=>rfl
theorem O_:aM "free_jobs" "free_jobs" jL ["board","initiator"]:=fG fun _ _ _ _ _ _ _ _=>rfl
theorem Ma:aM "chosen_job" "chosen_job" iR ["board","initiator","free"]:=zc fun _ _ _ _ _ _ _ _ _=>rfl
theorem Ph:aM "pass_over" "pass_over" yD ["board","jobs"]:=fG fun _ _ _ _ _ _ _ _=>rfl
theorem CG:aM "refusal_of_list" "refusal_of_list" pq ["number","classes"]:=fG fun _ _ _ _ _ _ _ _=>rfl
theorem zb:aM "refusal_unless_on" "refusal_unless_on" lY ["board","number"]:=fG fun _ _ _ _ _ _ _ _=>rfl
theorem xT:aM "refusal_unless_idle" "refusal_unless_idle" jO ["board","number"]:=fG fun _ _ _ _ _ _ _ _=>rfl
theorem xR:aM "refusal_unless_busy" "refusal_unless_busy" jN ["board","number"]:=fG fun _ _ _ _ _ _ _ _=>rfl
theorem Zg:aM "start" "start" Ln ["board","number","classes"]:=zc fun _ _ _ _ _ _ _ _ _=>rfl
theorem Zf:aM "serve" "serve" Lk ["board","number","classes"]:=zc fun _ _ _ _ _ _ _ _ _=>rfl
theorem Mj:aM "switch_off" "switch_off" wL ["initiator"]:=bind1 fun _ _ _ _ _ _ _=>rfl
theorem FJ:aM "take_job_away" "take_job_away" rN ["initiator"]:=bind1 fun _ _ _ _ _ _ _=>rfl
theorem Zd:aM "drain" "drain" Li ["board","number"]:=fG fun _ _ _ _ _ _ _ _=>rfl
theorem Uq:aM "run_job" "run_job" DR ["initiator","job"]:=fG fun _ _ _ _ _ _ _ _=>rfl
theorem abo:aM "pick" "pick" Jc ["board","number"]:=fG fun _ _ _ _ _ _ _ _=>rfl
theorem abn:aM "peek" "peek" Q0 ["board","number"]:=fG fun _ _ _ _ _ _ _ _=>rfl
theorem Xq:aM "finish" "finish" G6 ["board","number","abend","code"]:=Ef fun _ _ _ _ _ _ _ _ _ _=>rfl
theorem Up:aM "requeue" "requeue" DQ ["board","number"]:=fG fun _ _ _ _ _ _ _ _=>rfl
theorem vG:aM "refusal_of_waiting_job" "refusal_of_waiting_job" g8 ["board","number"]:=fG fun _ _ _ _ _ _ _ _=>rfl
theorem Zc:aM "begin" "begin" Lh ["board","cap","k","a"]:=Ef fun _ _ _ _ _ _ _ _ _ _=>rfl
theorem Bw:aM "refusal_of_tests" "refusal_of_tests" nG ["board","tests"]:=fG fun _ _ _ _ _ _ _ _=>rfl
theorem Uk:aM "is_full" "is_full" DG ["board"]:=bind1 fun _ _ _ _ _ _ _=>rfl
theorem za:aM "refusal_of_submit" "refusal_of_submit" lX ["board","class_of","priority","held","name","row"]:=acd fun _ _ _ _ _ _ _ _ _ _ _ _=>rfl
theorem Xy:aM "submit" "submit" Hd ["board","class_of","priority","held","name","row"]:=acd fun _ _ _ _ _ _ _ _ _ _ _ _=>rfl
theorem Rm:aM "set_held" "set_held" Am ["board","number","held"]:=zc fun _ _ _ _ _ _ _ _ _=>rfl
theorem abk:aM "hold" "hold" QW ["board","number"]:=fG fun _ _ _ _ _ _ _ _=>rfl
theorem Ze:aM "letgo" "letgo" Lj ["board","number"]:=fG fun _ _ _ _ _ _ _ _=>rfl
theorem Xp:aM "change" "change" G5 ["board","number","class_of","priority"]:=Ef fun _ _ _ _ _ _ _ _ _ _=>rfl
theorem Xo:aM "cancel" "cancel" G4 ["board","number"]:=fG fun _ _ _ _ _ _ _ _=>rfl
theorem Xr:aM "forget" "forget" G7 ["board","number"]:=fG fun _ _ _ _ _ _ _ _=>rfl
theorem abp:aM "tick" "tick" Q4 ["board","n"]:=fG fun _ _ _ _ _ _ _ _=>rfl
theorem H_:aM "waiting_jobs" "waiting_jobs" oE ["board"]:=bind1 fun _ _ _ _ _ _ _=>rfl
theorem Mh:aM "ready_jobs" "ready_jobs" su ["board"]:=bind1 fun _ _ _ _ _ _ _=>rfl
theorem Mp:aM "tell_order" "tell_order" dN ["board","class_of"]:=fG fun _ _ _ _ _ _ _ _=>rfl
theorem Cz:aM "place_among_due" "place_among_due" jM ["board","job"]:=fG fun _ _ _ _ _ _ _ _=>rfl
theorem Ju:aM "tell_status" "tell_status" vA ["board","number"]:=fG fun _ _ _ _ _ _ _ _=>rfl
theorem Mq:aM "tell_tests" "tell_tests" wN ["board","number"]:=fG fun _ _ _ _ _ _ _ _=>rfl
theorem Pg:aM "names_job" "names_job" uw ["tests","number"]:=fG fun _ _ _ _ _ _ _ _=>rfl
theorem Ml:aM "tell_after" "tell_after" sE ["board","number"]:=fG fun _ _ _ _ _ _ _ _=>rfl
theorem HY:aM "tell_running" "tell_running" tZ ["board"]:=bind1 fun _ _ _ _ _ _ _=>rfl
theorem Jt:aM "tell_counts" "tell_counts" vz ["board"]:=bind1 fun _ _ _ _ _ _ _=>rfl
theorem Ed:aM "tell_initiator" "tell_initiator" qG ["board","number"]:=fG fun _ _ _ _ _ _ _ _=>rfl
theorem Mm:aM "tell_class" "tell_class" wM ["board","class_of"]:=fG fun _ _ _ _ _ _ _ _=>rfl
theorem Eb:aM "answer_on_jobs" "answer_on_jobs" qC ["board","call","numbers","rows"]:=Ef fun _ _ _ _ _ _ _ _ _ _=>rfl
theorem yX:aM "answer_on_classes" "answer_on_classes" lV ["board","call","numbers"]:=zc fun _ _ _ _ _ _ _ _ _=>rfl
theorem wU:aM "answer_on_initiators" "answer_on_initiators" jm ["board","call","numbers","rows"]:=Ef fun _ _ _ _ _ _ _ _ _ _=>rfl
theorem Cv:aM "answer_question" "answer_question" o9 ["board","call","numbers"]:=zc fun _ _ _ _ _ _ _ _ _=>rfl
theorem Jm:aM "answer_next" "answer_next" lU ["board","reader"]:=fG fun _ _ _ _ _ _ _ _=>rfl
theorem L_:aM "answers_on" "answers_on" wH ["board","calls"]:=fG fun _ _ _ _ _ _ _ _=>rfl
theorem Ug:aM "answers" "answers" Dv ["calls"]:=bind1 fun _ _ _ _ _ _ _=>rfl
theorem Rc:aM "__init__" "Job.__init__" Ag ["self","number","name","class_of","priority","held","tests"]:=adL fun _ _ _ _ _ _ _ _ _ _ _ _ _=>rfl
theorem Ea:aM "__init__" "Initiator.__init__" qz ["self"]:=bind1 fun _ _ _ _ _ _ _=>rfl
theorem LR:aM "__init__" "Board.__init__" wG ["self","cap","k","a"]:=Ef fun _ _ _ _ _ _ _ _ _ _=>rfl
theorem Jk:aM "renew" "Board.renew" vh ["self","cap","k","a"]:=Ef fun _ _ _ _ _ _ _ _ _ _=>rfl
theorem Jl:aM "__init__" "Reader.__init__" vm ["self","calls"]:=fG fun _ _ _ _ _ _ _ _=>rfl
theorem Bv:aM "is_at_end" "Reader.is_at_end" nA ["self"]:=bind1 fun _ _ _ _ _ _ _=>rfl
theorem yQ:aM "take_number" "Reader.take_number" kh ["self"]:=bind1 fun _ _ _ _ _ _ _=>rfl
theorem Cu:aM "take_row" "Reader.take_row" o8 ["self"]:=bind1 fun _ _ _ _ _ _ _=>rfl
section
variable {K:PySem.W.Frag}{h:Heap}{mg:Str→Option Value}{x qual:Str}{st:Stmt}{ps:List Str}{f C a:Addr}{oc kV doc pm cdv ct:Value}{od an:Option Addr}{osl:Array (Option Value)}
def b8(X:K.In h)(G:h.Ns mainGlobals mg)(b:aM x qual st ps)(a:PySem.W.nsIn K mainGlobals x=some (some (.ref f)))
  (l:K.lookup f=some ⟨oc,od,.func (PySem.W.fnOf x qual (kI st) (iu st) (aA st) .none kV doc pm an cdv ct),osl⟩) (c:PySem.W.codeIn K cdv qual=true) (k:PySem.W.keepIn K (.ref f)=true):bW K mg x qual st ps :=
 ⟨f,_,Qh l c k,(Qh l c k).binds b,PySem.W.mg_of X G a⟩
theorem acp{n:Addr}(X:K.In h)(G:h.Ns mainGlobals mg)(b:aM x qual st ps)(a:PySem.W.nsIn K mainGlobals x=some (some (.ref f)))
  (l:K.lookup f=some ⟨oc,od,.func (PySem.W.fnOf x qual (kI st) (iu st) (aA st) .none kV doc pm an cdv ct),osl⟩) (c:PySem.W.codeIn K cdv qual=true) (k:PySem.W.keepIn K (.ref f)=true) (hc:cdv=.ref n):∃d:bW K mg x qual st ps,d.fd.code=.ref n :=
 ⟨b8 X G b a l c k,hc⟩
def R6(_:K.In h)(b:aM x qual st ps)(a:PySem.W.findIn K (.ref C) x=some (some (.ref f)))(i:PySem.W.isFn K (.ref f)=true)
  (l:K.lookup f=some ⟨oc,od,.func (PySem.W.fnOf x qual (kI st) (iu st) (aA st) .none kV doc pm an cdv ct),osl⟩) (c:PySem.W.codeIn K cdv qual=true) (k:PySem.W.keepIn K (.ref f)=true):Jd K C x qual st ps :=
 ⟨f,_,Qh l c k,(Qh l c k).binds b,⟨a,i,k⟩⟩
theorem bF{n:Int}{t:Tok}(X:K.In h)(G:h.Ns mainGlobals mg)(a:PySem.W.nsIn K mainGlobals x=some (some (.int n t))):∃t,mg x=some (.int n t):=⟨t,PySem.W.mg_of X G a⟩
theorem PJ(_:K.In h)(pg:PySem.W.plainGet K C Str.empty=true)(hd:PySem.W.hasDictIn K C=true)(po:PySem.W.plainOver K C=true)(sa:PySem.W.findIn K (.ref C) "__setattr__" = some (some (.builtin "object.__setattr__"))):Cls K C:=⟨pg,hd,po,sa⟩
theorem abH(X:K.In h)(G:h.Ns mainGlobals mg)(m:Meth K C "__init__" f)(mk:PySem.W.makesIn K C=true)(kc:PySem.W.keepIn K (.ref C)=true)(a:PySem.W.nsIn K mainGlobals x=some (some (.ref C))):T9 K mg C x f:=⟨⟨mk,m.at_,m.fn,kc⟩,PySem.W.mg_of X G a⟩
theorem ji(_:K.In h)(e:PySem.W.findIn K (.ref C) x=some none):cJ K C x:=e
theorem YK(X:K.In h)(G:h.Ns mainGlobals mg)(e:PySem.W.nsIn K mainGlobals "SHAPES" = some (some (.ref a)))(q:Lf K a=true):yU K mg:=YL (PySem.W.mg_of X G e) q
theorem ab0{f fa:Addr}(a:mg x=some (.ref f))(b:mg x=some (.ref fa)):f=fa:=by
 rw[a]at b
 cases b
 rfl
end
structure ab_(K:PySem.W.Frag)(mg:Str→Option Value)(fa p1 p2 c1 c2:Addr):Prop where
 txt:∃T:Txt K mg,T.mQ=p1∧T.mR=p2∧T.mq.f=fa∧T.dU.fd.code=.ref c1∧T.fJ.fd.code=.ref c2
 sh:yU K mg
 ne:p1≠p2
 h1:PySem.W.codeHdIn K c1 p1=true
 h2:PySem.W.codeHdIn K c2 p2=true
 k1:K.lookup p1=none
 k2:K.lookup p2=none
 nol:Vo K=true
end Jq
end

namespace Jq
open PySem PySem.W PyProof.Rows
abbrev Tagd (_ : OpenSpec) (P : Prop) : Prop := P
local macro_rules | `(tactic| o_headS ($_ $k $a $p)) => `(tactic| o_headS (PySem.W.kmHook $k $a $p [340, 549]))
local macro_rules | `(tactic| refine $e:term) => do
  let r := e.raw
  unless r.getKind == `Lean.Parser.Term.app do Lean.Macro.throwUnsupported
  let as := r[1].getArgs
  let z := as.back!
  unless z.getKind == `Lean.Parser.Term.syntheticHole && z[1].getId.eraseMacroScopes == `hc do Lean.Macro.throwUnsupported
  let y ← `(($(Lean.mkIdent `W)) _ _ _ _ _ _ _ ?$(Lean.mkIdent `hF))
  let n : Lean.TSyntax `term := ⟨r.setArg 1 (r[1].setArgs (as.pop.push y.raw))⟩
  `(tactic| refine $n)
def hd.tw1370148192432970395 : Unit := ()
def hd.tw8106589749190362646 : Unit := ()
def hd.tw5097935302298689637 : Unit := ()
def hd.tw14526446571070102653 : Unit := ()
def hd.tw3249657274271485234 : Unit := ()
def hd.tw4410582267604668391 : Unit := ()
def hd.tw2226773887631147177 : Unit := ()
def hd.tw13337125060805210585 : Unit := ()
def hd.tw16231868969227526591 : Unit := ()
def hd.tw16907554794650513834 : Unit := ()
def hd.tw15172084213592246811 : Unit := ()
def hd.tw8193596455407277753 : Unit := ()
def hd.tw8574659460598830215 : Unit := ()
def hd.tw14228516175398441803 : Unit := ()
def hd.tw5048661582331276871 : Unit := ()
def hd.tw6003634127893717118 : Unit := ()
def hd.tw2084635048917139662 : Unit := ()
def hd.tw8571831326035645629 : Unit := ()
def hd.tw14086630132965727823 : Unit := ()
def hd.tw11843906320187658253 : Unit := ()
def hd.tw12042990506190522964 : Unit := ()
def hd.tw5803457958236035379 : Unit := ()
def hd.tw15469334310269123301 : Unit := ()
def hd.tw13714497255461414670 : Unit := ()
def hd.tw10314437335538778243 : Unit := ()
def hd.tw17577880761735960065 : Unit := ()
def hd.tw15767090597521901906 : Unit := ()
def hd.tw10283832243117540719 : Unit := ()
def hd.tw11662673643705612497 : Unit := ()
def hd.tw5935340495693491699 : Unit := ()
def hd.tw2098788640149661514 : Unit := ()
def hd.tw966929188805128007 : Unit := ()
def hd.tw5059369518133596691 : Unit := ()
def hd.tw17468262839805088253 : Unit := ()
def hd.tw9979564122746625884 : Unit := ()
def hd.tw13379831660024541714 : Unit := ()
def hd.tw15790649908962783563 : Unit := ()
def hd.tw11808374503531765601 : Unit := ()
def hd.tw16998875967828744874 : Unit := ()
def hd.tw1457117762781474954 : Unit := ()
def hd.tw3988116119590453056 : Unit := ()
def hd.tw13299119611217342650 : Unit := ()
def hd.tw7612626448281951855 : Unit := ()
def hd.tw8827667760805490288 : Unit := ()
def hd.tw5668441938531346798 : Unit := ()
def hd.tw2232078980761209890 : Unit := ()
def hd.tw8791136787681281605 : Unit := ()
def hd.tw9835380616683111499 : Unit := ()
def hd.tw16121673385622938707 : Unit := ()
def hd.tw11982275007320486743 : Unit := ()
def hd.tw17306771596012988625 : Unit := ()
def hd.tw8196055256008146617 : Unit := ()
def hd.tw5040757290543877926 : Unit := ()
def hd.tw16196839793509515228 : Unit := ()
def hd.tw12136674269745833738 : Unit := ()
def hd.tw14066492063449322671 : Unit := ()
def hd.tw3190218274518783535 : Unit := ()
def hd.tw11223637274984366601 : Unit := ()
def hd.tw4361608088500362522 : Unit := ()
def hd.tw4104032927990249558 : Unit := ()
def hd.tw6791340734961196762 : Unit := ()
def hd.tw8748591757850852613 : Unit := ()
def hd.tw15426047995233293542 : Unit := ()
def hd.tw4212179948847907125 : Unit := ()
def hd.tw9659432202633897369 : Unit := ()
def hd.tw3899550080517774045 : Unit := ()
def hd.tw15991149099890209099 : Unit := ()
def hd.tw4567395530771063362 : Unit := ()
def hd.tw1574259695913464279 : Unit := ()
def hd.tw16602774946294641139 : Unit := ()
def hd.tw4042158253667794296 : Unit := ()
def hd.tw14478708544601705792 : Unit := ()
def hd.tw10787107077108402984 : Unit := ()
def hd.tw2016643677007076289 : Unit := ()
set_option maxRecDepth 100000 in
set_option maxHeartbeats 0 in
theorem hd (W : ∀ (q : Program) (loose : List Str) (XP : (Str → Option Value) → Heap → Prop) (d : DefRec) (K : Params → Frag) (as : List Addr) (e : ∀ P, as = (K P).map (·.1)),
    Tagd PySem.Challenge.rw_jobqueue_s01_answers (∀ (w : World) (mg : Str → Option Value) (fa : Addr) (h : Heap), (K w.params).In h → h.Ns mainGlobals mg → mg d.name = some (.ref fa) → ab_ (K w.params) mg fa 340 549 342 551) →
    WalkOS q loose XP (kmHook K as e [340, 549]).says PySem.Challenge.rw_jobqueue_s01_answers d [] (fun f vs => PySem.call f vs)) : PySem.Challenge.rw_jobqueue_s01_answers.Holds := by
  w_on; k_headS; (case hw => exact ⟨[.list [.int 23]], by decide +kernel, by decide +kernel⟩)
  k_fillS
  intro w mg fa h KX G hmg
  have w6 := Jq.b8 KX G Jq.Xu (by k_is) (by k_is) (by k_is) (by k_is)
  have Ge := Jq.b8 KX G Jq.abm (by k_is) (by k_is) (by k_is) (by k_is)
  have Gd := Jq.b8 KX G Jq.abl (by k_is) (by k_is) (by k_is) (by k_is)
  have fZ := Jq.b8 KX G Jq.Fz (by k_is) (by k_is) (by k_is) (by k_is)
  have fY := Jq.b8 KX G Jq.Rg (by k_is) (by k_is) (by k_is) (by k_is)
  have iK := Jq.b8 KX G Jq.Jp (by k_is) (by k_is) (by k_is) (by k_is)
  have gJ := Jq.b8 KX G Jq.HW (by k_is) (by k_is) (by k_is) (by k_is)
  have qM := Jq.b8 KX G Jq.Uj (by k_is) (by k_is) (by k_is) (by k_is)
  have qP := Jq.b8 KX G Jq.Rk (by k_is) (by k_is) (by k_is) (by k_is)
  have qO := Jq.b8 KX G Jq.Ri (by k_is) (by k_is) (by k_is) (by k_is)
  have dX := Jq.b8 KX G Jq.HS (by k_is) (by k_is) (by k_is) (by k_is)
  have k_ := Jq.b8 KX G Jq.Pb (by k_is) (by k_is) (by k_is) (by k_is)
  have qN := Jq.b8 KX G Jq.Rh (by k_is) (by k_is) (by k_is) (by k_is)
  have uz := Jq.b8 KX G Jq.Ul (by k_is) (by k_is) (by k_is) (by k_is)
  have g_ := Jq.b8 KX G Jq.Fy (by k_is) (by k_is) (by k_is) (by k_is)
  have fV := Jq.b8 KX G Jq.Cy (by k_is) (by k_is) (by k_is) (by k_is)
  have iM := Jq.b8 KX G Jq.Js (by k_is) (by k_is) (by k_is) (by k_is)
  have uA := Jq.b8 KX G Jq.Um (by k_is) (by k_is) (by k_is) (by k_is)
  have dJ := Jq.b8 KX G Jq.Uh (by k_is) (by k_is) (by k_is) (by k_is)
  have jt := Jq.b8 KX G Jq.Pa (by k_is) (by k_is) (by k_is) (by k_is)
  have lg := Jq.b8 KX G Jq.Rj (by k_is) (by k_is) (by k_is) (by k_is)
  have kZ := Jq.b8 KX G Jq.Xv (by k_is) (by k_is) (by k_is) (by k_is)
  have pF := Jq.b8 KX G Jq.Uo (by k_is) (by k_is) (by k_is) (by k_is)
  have xf := Jq.b8 KX G Jq.Xw (by k_is) (by k_is) (by k_is) (by k_is)
  have gH := Jq.b8 KX G Jq.Rf (by k_is) (by k_is) (by k_is) (by k_is)
  have dZ := Jq.b8 KX G Jq.HX (by k_is) (by k_is) (by k_is) (by k_is)
  have cz := Jq.b8 KX G Jq.yZ (by k_is) (by k_is) (by k_is) (by k_is)
  have cQ := Jq.b8 KX G Jq.Ec (by k_is) (by k_is) (by k_is) (by k_is)
  have jU := Jq.b8 KX G Jq.Jr (by k_is) (by k_is) (by k_is) (by k_is)
  have jD := Jq.b8 KX G Jq.Mi (by k_is) (by k_is) (by k_is) (by k_is)
  have jT := Jq.b8 KX G Jq.Jo (by k_is) (by k_is) (by k_is) (by k_is)
  have mC := Jq.b8 KX G Jq.Mg (by k_is) (by k_is) (by k_is) (by k_is)
  have dW := Jq.b8 KX G Jq.Cw (by k_is) (by k_is) (by k_is) (by k_is)
  have dF := Jq.b8 KX G Jq.Bx (by k_is) (by k_is) (by k_is) (by k_is)
  have jB := Jq.b8 KX G Jq.Mf (by k_is) (by k_is) (by k_is) (by k_is)
  have qL := Jq.b8 KX G Jq.Ui (by k_is) (by k_is) (by k_is) (by k_is)
  have eQ := Jq.b8 KX G Jq.y_ (by k_is) (by k_is) (by k_is) (by k_is)
  have kY := Jq.b8 KX G Jq.O_ (by k_is) (by k_is) (by k_is) (by k_is)
  obtain ⟨dU, q_d_chosen_job⟩ := Jq.acp (n := 342) KX G Jq.Ma (by k_is) (by k_is) (by k_is) (by k_is) rfl
  have pC := Jq.b8 KX G Jq.Ph (by k_is) (by k_is) (by k_is) (by k_is)
  have dY := Jq.b8 KX G Jq.CG (by k_is) (by k_is) (by k_is) (by k_is)
  have dq := Jq.b8 KX G Jq.zb (by k_is) (by k_is) (by k_is) (by k_is)
  have cX := Jq.b8 KX G Jq.xT (by k_is) (by k_is) (by k_is) (by k_is)
  have cW := Jq.b8 KX G Jq.xR (by k_is) (by k_is) (by k_is) (by k_is)
  have Bb := Jq.b8 KX G Jq.Zg (by k_is) (by k_is) (by k_is) (by k_is)
  have Ba := Jq.b8 KX G Jq.Zf (by k_is) (by k_is) (by k_is) (by k_is)
  have jE := Jq.b8 KX G Jq.Mj (by k_is) (by k_is) (by k_is) (by k_is)
  have gf := Jq.b8 KX G Jq.FJ (by k_is) (by k_is) (by k_is) (by k_is)
  have Az := Jq.b8 KX G Jq.Zd (by k_is) (by k_is) (by k_is) (by k_is)
  have uC := Jq.b8 KX G Jq.Uq (by k_is) (by k_is) (by k_is) (by k_is)
  have Gg := Jq.b8 KX G Jq.abo (by k_is) (by k_is) (by k_is) (by k_is)
  have Gf := Jq.b8 KX G Jq.abn (by k_is) (by k_is) (by k_is) (by k_is)
  have wY := Jq.b8 KX G Jq.Xq (by k_is) (by k_is) (by k_is) (by k_is)
  have uB := Jq.b8 KX G Jq.Up (by k_is) (by k_is) (by k_is) (by k_is)
  have bO := Jq.b8 KX G Jq.vG (by k_is) (by k_is) (by k_is) (by k_is)
  have Ay := Jq.b8 KX G Jq.Zc (by k_is) (by k_is) (by k_is) (by k_is)
  have fu := Jq.b8 KX G Jq.Bw (by k_is) (by k_is) (by k_is) (by k_is)
  have ux := Jq.b8 KX G Jq.Uk (by k_is) (by k_is) (by k_is) (by k_is)
  have eU := Jq.b8 KX G Jq.za (by k_is) (by k_is) (by k_is) (by k_is)
  have xg := Jq.b8 KX G Jq.Xy (by k_is) (by k_is) (by k_is) (by k_is)
  have oF := Jq.b8 KX G Jq.Rm (by k_is) (by k_is) (by k_is) (by k_is)
  have F_ := Jq.b8 KX G Jq.abk (by k_is) (by k_is) (by k_is) (by k_is)
  have A_ := Jq.b8 KX G Jq.Ze (by k_is) (by k_is) (by k_is) (by k_is)
  have wX := Jq.b8 KX G Jq.Xp (by k_is) (by k_is) (by k_is) (by k_is)
  have wW := Jq.b8 KX G Jq.Xo (by k_is) (by k_is) (by k_is) (by k_is)
  have wZ := Jq.b8 KX G Jq.Xr (by k_is) (by k_is) (by k_is) (by k_is)
  have Gh := Jq.b8 KX G Jq.abp (by k_is) (by k_is) (by k_is) (by k_is)
  have gK := Jq.b8 KX G Jq.H_ (by k_is) (by k_is) (by k_is) (by k_is)
  have jC := Jq.b8 KX G Jq.Mh (by k_is) (by k_is) (by k_is) (by k_is)
  obtain ⟨fJ, q_d_tell_order⟩ := Jq.acp (n := 551) KX G Jq.Mp (by k_is) (by k_is) (by k_is) (by k_is) rfl
  have fW := Jq.b8 KX G Jq.Cz (by k_is) (by k_is) (by k_is) (by k_is)
  have jW := Jq.b8 KX G Jq.Ju (by k_is) (by k_is) (by k_is) (by k_is)
  have mH := Jq.b8 KX G Jq.Mq (by k_is) (by k_is) (by k_is) (by k_is)
  have pB := Jq.b8 KX G Jq.Pg (by k_is) (by k_is) (by k_is) (by k_is)
  have mF := Jq.b8 KX G Jq.Ml (by k_is) (by k_is) (by k_is) (by k_is)
  have iW := Jq.b8 KX G Jq.HY (by k_is) (by k_is) (by k_is) (by k_is)
  have jV := Jq.b8 KX G Jq.Jt (by k_is) (by k_is) (by k_is) (by k_is)
  have gG := Jq.b8 KX G Jq.Ed (by k_is) (by k_is) (by k_is) (by k_is)
  have mG := Jq.b8 KX G Jq.Mm (by k_is) (by k_is) (by k_is) (by k_is)
  have gF := Jq.b8 KX G Jq.Eb (by k_is) (by k_is) (by k_is) (by k_is)
  have eO := Jq.b8 KX G Jq.yX (by k_is) (by k_is) (by k_is) (by k_is)
  have dg := Jq.b8 KX G Jq.wU (by k_is) (by k_is) (by k_is) (by k_is)
  have fU := Jq.b8 KX G Jq.Cv (by k_is) (by k_is) (by k_is) (by k_is)
  have jR := Jq.b8 KX G Jq.Jm (by k_is) (by k_is) (by k_is) (by k_is)
  have mz := Jq.b8 KX G Jq.L_ (by k_is) (by k_is) (by k_is) (by k_is)
  have mq := Jq.b8 KX G Jq.Ug (by k_is) (by k_is) (by k_is) (by k_is)
  have kW := Jq.R6 (C := 162) KX Jq.Rc (by k_is) (by k_is) (by k_is) (by k_is) (by k_is)
  have dH := Jq.R6 (C := 218) KX Jq.Ea (by k_is) (by k_is) (by k_is) (by k_is) (by k_is)
  have ir := Jq.R6 (C := 246) KX Jq.LR (by k_is) (by k_is) (by k_is) (by k_is) (by k_is)
  have iJ := Jq.R6 (C := 246) KX Jq.Jk (by k_is) (by k_is) (by k_is) (by k_is) (by k_is)
  have gB := Jq.R6 (C := 675) KX Jq.Jl (by k_is) (by k_is) (by k_is) (by k_is) (by k_is)
  have fj := Jq.R6 (C := 675) KX Jq.Bv (by k_is) (by k_is) (by k_is) (by k_is) (by k_is)
  have cG := Jq.R6 (C := 675) KX Jq.yQ (by k_is) (by k_is) (by k_is) (by k_is) (by k_is)
  have fQ := Jq.R6 (C := 675) KX Jq.Cu (by k_is) (by k_is) (by k_is) (by k_is) (by k_is)
  have bQ := Jq.PJ (C := 162) KX (by k_is) (by k_is) (by k_is) (by k_is)
  have Z5 := Jq.abH (C := 162) (x := "Job") KX G kW.m (by k_is) (by k_is) (by k_is)
  have uv := Jq.ji (C := 162) (x := "number") KX (by k_is)
  have uN := Jq.ji (C := 162) (x := "name") KX (by k_is)
  have lA := Jq.ji (C := 162) (x := "class_of") KX (by k_is)
  have lB := Jq.ji (C := 162) (x := "priority") KX (by k_is)
  have oH := Jq.ji (C := 162) (x := "held") KX (by k_is)
  have iy := Jq.ji (C := 162) (x := "tests") KX (by k_is)
  have lC := Jq.ji (C := 162) (x := "state") KX (by k_is)
  have uM := Jq.ji (C := 162) (x := "code") KX (by k_is)
  have pP := Jq.ji (C := 162) (x := "waited") KX (by k_is)
  have eF := Jq.ji (C := 162) (x := "passed_over") KX (by k_is)
  have gP := Jq.ji (C := 162) (x := "due_turn") KX (by k_is)
  have bC := Jq.PJ (C := 218) KX (by k_is) (by k_is) (by k_is) (by k_is)
  have zE := Jq.abH (C := 218) (x := "Initiator") KX G dH.m (by k_is) (by k_is) (by k_is)
  have i_ := Jq.ji (C := 218) (x := "on") KX (by k_is)
  have du := Jq.ji (C := 218) (x := "classes") KX (by k_is)
  have cH := Jq.ji (C := 218) (x := "draining") KX (by k_is)
  have fC := Jq.ji (C := 218) (x := "runs") KX (by k_is)
  have bN := Jq.PJ (C := 246) KX (by k_is) (by k_is) (by k_is) (by k_is)
  have Qm := Jq.abH (C := 246) (x := "Board") KX G ir.m (by k_is) (by k_is) (by k_is)
  have vJ := Jq.ji (C := 246) (x := "cap") KX (by k_is)
  have Bj := Jq.ji (C := 246) (x := "k") KX (by k_is)
  have uD := Jq.ji (C := 246) (x := "a") KX (by k_is)
  have pM := Jq.ji (C := 246) (x := "time") KX (by k_is)
  have ur := Jq.ji (C := 246) (x := "jobs") KX (by k_is)
  have gq := Jq.ji (C := 246) (x := "last_number") KX (by k_is)
  have fc := Jq.ji (C := 246) (x := "last_due_turn") KX (by k_is)
  have lz := Jq.ji (C := 246) (x := "limits") KX (by k_is)
  have lu := Jq.ji (C := 246) (x := "closed") KX (by k_is)
  have gO := Jq.ji (C := 246) (x := "initiators") KX (by k_is)
  have dz := Jq.PJ (C := 675) KX (by k_is) (by k_is) (by k_is) (by k_is)
  have J7 := Jq.abH (C := 675) (x := "Reader") KX G gB.m (by k_is) (by k_is) (by k_is)
  have jc := Jq.ji (C := 675) (x := "calls") KX (by k_is)
  have eG := Jq.ji (C := 675) (x := "place") KX (by k_is)
  have xW := Jq.bF (x := "LAST_JOB") (n := (999999)) KX G (by k_is)
  have uh := Jq.bF (x := "LAST_CLASS") (n := (36)) KX G (by k_is)
  have lZ := Jq.bF (x := "LAST_INITIATOR") (n := (16)) KX G (by k_is)
  have xX := Jq.bF (x := "MOST_TESTS") (n := (8)) KX G (by k_is)
  have jz := Jq.bF (x := "MOST_CLASSES_IN_LIST") (n := (8)) KX G (by k_is)
  have uI := Jq.bF (x := "LONGEST_NAME") (n := (8)) KX G (by k_is)
  have l_ := Jq.bF (x := "WAITING") (n := (0)) KX G (by k_is)
  have nM := Jq.bF (x := "RUNNING_job") (n := (1)) KX G (by k_is)
  have ik := Jq.bF (x := "ENDED_WITH_CODE") (n := (2)) KX G (by k_is)
  have iV := Jq.bF (x := "ENDED_BY_ABEND") (n := (3)) KX G (by k_is)
  have FQ := Jq.bF (x := "FLUSHED") (n := (4)) KX G (by k_is)
  have zg := Jq.bF (x := "CANCELLED") (n := (5)) KX G (by k_is)
  have sZ := Jq.bF (x := "AFTER_ANY_END") (n := (0)) KX G (by k_is)
  have kJ := Jq.bF (x := "AFTER_CODE_AT_MOST") (n := (1)) KX G (by k_is)
  have gw := Jq.bF (x := "AFTER_CODE_ABOVE_OR_ABEND") (n := (2)) KX G (by k_is)
  have vP := Jq.bF (x := "AFTER_ABEND") (n := (3)) KX G (by k_is)
  have tD := Jq.bF (x := "GREATEST_RANK") (n := (15)) KX G (by k_is)
  have aW := Jq.bF (x := "NOT_REFUSED") (n := (0)) KX G (by k_is)
  have bH := Jq.bF (x := "OUT_OF_RANGE") (n := (-1)) KX G (by k_is)
  have xV := Jq.bF (x := "BAD_FORM") (n := (-2)) KX G (by k_is)
  have kO := Jq.bF (x := "NO_INITIATOR") (n := (-3)) KX G (by k_is)
  have Eg := Jq.bF (x := "NO_JOB") (n := (-4)) KX G (by k_is)
  have jA := Jq.bF (x := "SO_ALREADY") (n := (-5)) KX G (by k_is)
  have rP := Jq.bF (x := "WRONG_STATE") (n := (-6)) KX G (by k_is)
  have vQ := Jq.bF (x := "TEST_FAILED") (n := (-7)) KX G (by k_is)
  have Av := Jq.bF (x := "NO_ROOM") (n := (-8)) KX G (by k_is)
  have zp := Jq.bF (x := "LAST_TIME") (n := (100000000)) KX G (by k_is)
  have zj := Jq.bF (x := "FIRST_CAP") (n := (500)) KX G (by k_is)
  have FP := Jq.bF (x := "FIRST_K") (n := (10)) KX G (by k_is)
  have FN := Jq.bF (x := "FIRST_A") (n := (60)) KX G (by k_is)
  have Pk := Jq.bF (x := "BEGIN") (n := (0)) KX G (by k_is)
  have JG := Jq.bF (x := "SUBMIT") (n := (1)) KX G (by k_is)
  have Ut := Jq.bF (x := "HOLD") (n := (2)) KX G (by k_is)
  have Pr := Jq.bF (x := "LETGO") (n := (3)) KX G (by k_is)
  have Jz := Jq.bF (x := "CHANGE") (n := (4)) KX G (by k_is)
  have Jy := Jq.bF (x := "CANCEL") (n := (5)) KX G (by k_is)
  have JD := Jq.bF (x := "FORGET") (n := (6)) KX G (by k_is)
  have Ux := Jq.bF (x := "TICK") (n := (7)) KX G (by k_is)
  have Pu := Jq.bF (x := "LIMIT") (n := (8)) KX G (by k_is)
  have Pn := Jq.bF (x := "CLOSE") (n := (9)) KX G (by k_is)
  have Uu := Jq.bF (x := "OPEN") (n := (10)) KX G (by k_is)
  have Pz := Jq.bF (x := "START") (n := (11)) KX G (by k_is)
  have Py := Jq.bF (x := "SERVE") (n := (12)) KX G (by k_is)
  have Pq := Jq.bF (x := "DRAIN") (n := (13)) KX G (by k_is)
  have Uw := Jq.bF (x := "PICK") (n := (14)) KX G (by k_is)
  have Uv := Jq.bF (x := "PEEK") (n := (15)) KX G (by k_is)
  have JC := Jq.bF (x := "FINISH") (n := (16)) KX G (by k_is)
  have FT := Jq.bF (x := "REQUEUE") (n := (17)) KX G (by k_is)
  have Px := Jq.bF (x := "ORDER") (n := (18)) KX G (by k_is)
  have JF := Jq.bF (x := "STATUS") (n := (19)) KX G (by k_is)
  have PB := Jq.bF (x := "TESTS") (n := (20)) KX G (by k_is)
  have Pj := Jq.bF (x := "AFTER") (n := (21)) KX G (by k_is)
  have uJ := Jq.bF (x := "RUNNING_desk") (n := (22)) KX G (by k_is)
  have JB := Jq.bF (x := "COUNTS") (n := (23)) KX G (by k_is)
  have zm := Jq.bF (x := "INITIATOR") (n := (24)) KX G (by k_is)
  have jo := PySem.W.mg_none_of (n := "len") KX G (by k_is)
  have Hi := PySem.W.mg_none_of (n := "list") KX G (by k_is)
  have vD := PySem.W.mg_none_of (n := "sorted") KX G (by k_is)
  have yH := PySem.W.mg_none_of (n := "range") KX G (by k_is)
  have T7 := PySem.W.mg_none_of (n := "min") KX G (by k_is)
  have abf := PySem.W.mg_none_of (n := "set") KX G (by k_is)
  have abe := PySem.W.mg_none_of (n := "any") KX G (by k_is)
  have OJ := PySem.W.mg_none_of (n := "int") KX G (by k_is)
  have shp := Jq.YK (a := 610) KX G (by k_is) (by kernel_rfl)
  exact ⟨⟨⟨162, 218, 246, 675, w6, Ge, Gd, fZ, fY, iK, gJ, qM, qP, qO, dX, k_, qN, uz, g_, fV, iM, uA, dJ, jt, lg, kZ, pF, xf, gH, dZ, cz, cQ, jU, jD, jT, mC, dW, dF, jB, qL, eQ, kY, dU, pC, dY, dq, cX, cW, Bb, Ba, jE, gf, Az, uC, Gg, Gf, wY, uB, bO, Ay, fu, ux, eU, xg, oF, F_, A_, wX, wW, wZ, Gh, gK, jC, fJ, fW, jW, mH, pB, mF, iW, jV, gG, mG, gF, eO, dg, fU, jR, mz, mq, kW, dH, ir, iJ, gB, fj, cG, fQ, bQ, Z5, uv, uN, lA, lB, oH, iy, lC, uM, pP, eF, gP, bC, zE, i_, du, cH, fC, bN, Qm, vJ, Bj, uD, pM, ur, gq, fc, lz, lu, gO, dz, J7, jc, eG, xW, uh, lZ, xX, jz, uI, l_, nM, ik, iV, FQ, zg, sZ, kJ, gw, vP, tD, aW, bH, xV, kO, Eg, jA, rP, vQ, Av, zp, zj, FP, FN, Pk, JG, Ut, Pr, Jz, Jy, JD, Ux, Pu, Pn, Uu, Pz, Py, Pq, Uw, Uv, JC, FT, Px, JF, PB, Pj, uJ, JB, zm, jo, Hi, vD, yH, T7, abf, abe, OJ, 340, 549, ⟨trivial⟩⟩, rfl, rfl, Jq.ab0 mq.g hmg, q_d_chosen_job, q_d_tell_order⟩, shp, by decide, by kernel_rfl, by kernel_rfl, by kernel_rfl, by kernel_rfl, by kernel_rfl⟩
end Jq
section
set_option autoImplicit false
namespace Jq
open Vbbhaj
abbrev nums(l:List Job):List Nat:=l.map (·.num)
def live(j:Job):Prop:=∀e,j.status≠.ended e
theorem sJ(l:List Job)(j:Job):nums (setJob l j)=nums l:=by
 unfold setJob nums
 rw[List.map_map]
 apply List.map_congr_left
 intro x _
 show(if x.num=j.num then j else x).num=x.num
 by_cases h:x.num=j.num
 ·rw[if_pos h];exact h.symm
 ·rw[if_neg h]
theorem xr:∀(l:List Job) (es:List (Nat×Ending)),nums (tell es l)=nums l
 |[],_=>rfl
 |j::r,es=>by
  unfold tell
  split
  ·split
   ·show j.num::nums (tell es r)=j.num::nums r;rw[xr r es]
   ·show j.num::nums (tell _ r)=j.num::nums r;rw[xr r _]
  ·show j.num::nums (tell es r)=j.num::nums r;rw[xr r es]
theorem wy(s:State)(x:Init)(p:Nat):∀(l:List Job) (st:Nat),nums (passOver s x p st l).2=nums l
 |[],_=>rfl
 |j::r,st=>by
  unfold passOver
  split
  ·show j.num::nums (passOver s x p _ r).2=j.num::nums r;rw[wy s x p r _]
  ·show j.num::nums (passOver s x p st r).2=j.num::nums r;rw[wy s x p r _]
def cV(l:List Job):Prop:=l.Pairwise fun a b=>a.num<b.num
theorem V8{l:List Job}:cV l↔(nums l).Pairwise (·<·):=by
 unfold cV nums
 rw[List.pairwise_map]
theorem cV.vK{l l':List Job}(h:cV l)(e:nums l'=nums l):cV l':=by
 rw[V8]at h ⊢
 rw[e];exact h
theorem cV.inj{l:List Job}(h:cV l):∀{a b:Job},a∈l→b∈l→a.num=b.num→a=b:=by
 induction l with
 |nil=>intro a b ha;cases ha
 |cons x r ih =>
  intro a b ha hb e
  have h':=List.pairwise_cons.mp h
  rcases List.mem_cons.mp ha with ea|ha'
  ·rcases List.mem_cons.mp hb with eb | hb'
   ·rw[ea,eb]
   ·have:=h'.1 b hb';rw[ea]at e;omega
  ·rcases List.mem_cons.mp hb with eb | hb'
   ·have:=h'.1 a ha';rw[eb]at e;omega
   ·exact ih h'.2 ha' hb' e
def t7(l:List Job)(n:Int):Option Job:=l.find? fun j=>(j.num:Int)==n
theorem iI{l:List Job}{n:Int}{j:Job}(h:t7 l n=some j):j∈l∧(j.num:Int)=n:=by
 refine⟨List.mem_of_find?_eq_some h,?_⟩
 have:=List.find?_some h
 exact eq_of_beq this
theorem Us{l:List Job}{n:Int}(h:t7 l n=none):∀j∈l,(j.num:Int)≠n:=by
 intro j hj e
 have:=List.find?_eq_none.mp h j hj
 exact this (by rw[e];exact beq_self_eq_true n)
theorem Jv{l:List Job}(hs:cV l){j:Job}(hj:j∈l):t7 l (j.num:Int)=some j:=by
 cases h:t7 l (j.num:Int)with
 |none=>exact absurd rfl (Us h j hj)
 |some k =>
  obtain⟨hk,e⟩:=iI h
  rw[hs.inj hk hj (by omega)]
theorem eE{l:List Job}{j x:Job}(h:x∈setJob l j):(x=j∧∃y∈l,y.num=j.num)∨(x∈l∧x.num≠j.num):=by
 unfold setJob at h
 obtain⟨y,hy,e⟩:=List.mem_map.mp h
 by_cases q:y.num=j.num
 ·rw[if_pos q]at e;exact .inl ⟨e.symm,y,hy,q⟩
 ·rw[if_neg q]at e;subst e;exact .inr ⟨hy,q⟩
theorem vg{l:List Job}{j y:Job}(hy:y∈l)(e:y.num=j.num):j∈setJob l j :=
 List.mem_map.mpr ⟨y,hy,if_pos e⟩
theorem nY{l:List Job}{j y:Job}(hy:y∈l)(e:y.num≠j.num):y∈setJob l j :=
 List.mem_map.mpr ⟨y,hy,if_neg e⟩
theorem M9(a b:List Job)(j:Job):setJob (a++b) j=setJob a j++setJob b j:=List.map_append
theorem HN{l:List Job}{j:Job}(h:∀x∈l,x.num≠j.num):setJob l j=l:=by
 unfold setJob
 have:l.map (fun x=>if x.num=j.num then j else x)=l.map id:=List.map_congr_left fun x hx=>if_neg (h x hx)
 rw[this,List.map_id]
theorem YH{a b:List Job}{x j:Job}(hs:cV (a++x::b))(e:x.num=j.num):setJob (a++x::b) j=a++j::b:=by
 unfold cV at hs
 rw[List.pairwise_append]at hs
 obtain⟨_,h2,h3⟩:=hs
 have h2':=List.pairwise_cons.mp h2
 rw[M9,HN (l:=a) (fun y hy=>by have:=h3 y hy x (by simp);omega)]
 show a++(if x.num=j.num then j else x)::setJob b j=a++j::b
 rw[if_pos e,HN fun y hy=>by have:=h2'.1 y hy;omega]
structure sG(j:Job):Prop where
 cls:1≤j.cls∧j.cls≤36
 prio:j.prio≤15
 name:isName j.name=true
 few:j.tests.length≤8
 tst:∀t∈j.tests,t.kind≤3∧t.n≤4095∧1≤t.job∧t.job<j.num
 idle:j.status≠.waiting→j.tests=[]∧j.held=false∧j.passed=0∧j.due=0
structure Good(s:State):Prop where
 cap:1≤s.cap∧s.cap≤500
 passes:1≤s.passes∧s.passes≤1000
 aging:1≤s.aging∧s.aging≤1000000
 now:s.now≤100000000
 next:1≤s.next∧s.next≤1000000
 stamp:1≤s.stamp
 CZ:s.classes.length=36
 Ij:s.inits.length=16
 few:s.jobs.length≤s.cap
 srt:cV s.jobs
 num:∀j∈s.jobs,1≤j.num∧j.num<s.next
 ok:∀j∈s.jobs,sG j
 wtd:∀j∈s.jobs,j.waited≤s.now
 tst:∀j∈s.jobs,∀t∈j.tests,∃k∈s.jobs,k.num=t.job∧live k
 due:∀j∈s.jobs,j.due<s.stamp
 inj:∀i∈s.jobs,∀j∈s.jobs,0<i.due→i.due=j.due→i.num=j.num
theorem RP{c p a:Nat}(hc:1≤c∧c≤500)(hp:1≤p∧p≤1000)(ha:1≤a∧a≤1000000):Good (newHouse c p a) where
 cap:=hc
 passes:=hp
 aging:=ha
 now:=Nat.zero_le _
 next:=⟨Nat.le_refl _,by show 1≤1000000;omega⟩
 stamp:=Nat.le_refl _
 CZ:=by show(List.replicate CLASSES _).length=36;rw[List.length_replicate];rfl
 Ij:=by show(List.replicate INITS _).length=16;rw[List.length_replicate];rfl
 few:=Nat.zero_le _
 srt:=List.Pairwise.nil
 num:=fun j hj=>by cases hj
 ok:=fun j hj=>by cases hj
 wtd:=fun j hj=>by cases hj
 tst:=fun j hj=>by cases hj
 due:=fun j hj=>by cases hj
 inj:=fun j hj=>by cases hj
theorem U7:Good start:=RP ⟨by decide,by decide⟩ ⟨by decide,by decide⟩ ⟨by decide,by decide⟩
theorem Good.Wj{s:State}(g:Good s)(l:List Init)(h:l.length=16):Good {s with inits:=l} :=
 ⟨g.cap,g.passes,g.aging,g.now,g.next,g.stamp,g.CZ,h,g.few,g.srt,g.num,g.ok,g.wtd,g.tst,g.due,g.inj⟩
theorem Good.yG{s:State}(g:Good s)(l:List Class)(h:l.length=36):Good {s with classes:=l} :=
 ⟨g.cap,g.passes,g.aging,g.now,g.next,g.stamp,h,g.Ij,g.few,g.srt,g.num,g.ok,g.wtd,g.tst,g.due,g.inj⟩
theorem Good.setInit{s:State}(g:Good s)(i:Int)(x:Init):Good (setInit s i x) :=
 g.Wj _ (by rw[List.length_set];exact g.Ij)
theorem Good.setJob{s:State}(g:Good s){j j':Job}(hj:j∈s.jobs)(e:j'.num=j.num)(ok:sG j')(hw:j'.waited≤s.now)(hd:j'.due=j.due∨j'.due=0)(hl:live j→live j')
  (ht:∀t∈j'.tests,t∈j.tests):Good {s with jobs:=setJob s.jobs j'} where
 cap:=g.cap
 passes:=g.passes
 aging:=g.aging
 now:=g.now
 next:=g.next
 stamp:=g.stamp
 CZ:=g.CZ
 Ij:=g.Ij
 few:=by show(Vbbhaj.setJob s.jobs j').length≤_;unfold Vbbhaj.setJob;rw[List.length_map];exact g.few
 srt:=g.srt.vK (sJ _ _)
 num:=fun x hx=>by
  rcases eE hx with ⟨rfl,_⟩|⟨hx,_⟩
  ·rw[e];exact g.num j hj
  ·exact g.num x hx
 ok:=fun x hx=>by
  rcases eE hx with ⟨rfl,_⟩|⟨hx,_⟩
  ·exact ok
  ·exact g.ok x hx
 wtd:=fun x hx=>by
  rcases eE hx with ⟨rfl,_⟩|⟨hx,_⟩
  ·exact hw
  ·exact g.wtd x hx
 tst:=fun x hx t htx=>by
  have old:∃k∈s.jobs,k.num=t.job∧live k:=by
   rcases eE hx with ⟨rfl,_⟩|⟨hx,_⟩
   ·exact g.tst j hj t (ht t htx)
   ·exact g.tst x hx t htx
  obtain⟨k,hk,e1,l⟩:=old
  by_cases q:k.num=j'.num
  ·have:k=j:=g.srt.inj hk hj (by omega)
   subst this
   exact⟨j',vg hk q,by omega,hl l⟩
  ·exact⟨k,nY hk q,e1,l⟩
 due:=fun x hx=>by
  rcases eE hx with ⟨rfl,_⟩|⟨hx,_⟩
  ·rcases hd with hd | hd
   ·show x.due<s.stamp;rw[hd];exact g.due j hj
   ·show x.due<s.stamp;rw[hd];have:=g.stamp;omega
  ·exact g.due x hx
 inj:=fun x hx y hy h0 e1=>by
  have key:∀z∈Vbbhaj.setJob s.jobs j',0<z.due→∃z0∈s.jobs,z0.num=z.num∧z0.due=z.due:=fun z hz hz0=>by
   rcases eE hz with ⟨rfl,_⟩|⟨hz,_⟩
   ·rcases hd with hd | hd
    ·exact⟨j,hj,e.symm,hd.symm⟩
    ·omega
   ·exact⟨z,hz,rfl,rfl⟩
  obtain⟨x0,hx0,a1,a2⟩:=key x hx h0
  obtain⟨y0,hy0,b1,b2⟩:=key y hy (by omega)
  have:=g.inj x0 hx0 y0 hy0 (by omega) (by omega)
  omega
end Jq
end
section
set_option autoImplicit false
namespace Jq
open Vbbhaj
def endOf(j:Job):Option Ending:=match j.status with
 |.ended e=>some e
 |_=>none
theorem x_{j:Job}:endOf j=none↔live j:=by
 unfold endOf live
 cases j.status<;>simp
theorem JP{j:Job}{e:Ending}:endOf j=some e↔j.status=.ended e:=by
 unfold endOf
 cases j.status<;>simp
theorem tE{j:Job}(h:j.status=.waiting):live j:=fun e q=>by rw[h]at q;cases q
theorem BR{j:Job}(h:j.status=.waiting):endOf j=none:=x_.mpr (tE h)
def iH(es:List (Nat×Ending))(ts:List Test):Bool:=ts.all fun t=>match endingIn es t.job with
 |some e=>met t e
 |none=>true
def opened(es:List (Nat×Ending))(ts:List Test):List Test:=ts.filter fun t=>(endingIn es t.job).isNone
def turn(es:List (Nat×Ending))(j:Job):Job :=
 if j.status=.waiting then if iH es j.tests=true then {j with tests:=opened es j.tests}else atEnd j .flushed else j
def jQ(es:List (Nat×Ending))(j:Job):List (Nat×Ending) :=
 if j.status=.waiting then if iH es j.tests=true then es else (j.num,.flushed)::es else es
def qH(es:List (Nat×Ending))(j:Job):List Nat :=
 if j.status=.waiting then if iH es j.tests=true then []else [j.num]else []
theorem uG(es:List (Nat×Ending))(j:Job)(r:List Job):tell es (j::r)=turn es j::tell (jQ es j) r:=by
 have a:tell es (j::r)=if j.status=.waiting then (if iH es j.tests=true then {j with tests:=opened es j.tests}::tell es r else atEnd j .flushed::tell ((j.num,.flushed)::es) r)else j::tell es r:=by
  rw[tell];rfl
 rw[a]
 unfold turn jQ
 by_cases h:j.status=.waiting
 ·rw[if_pos h,if_pos h,if_pos h]
  by_cases q:iH es j.tests=true
  ·rw[if_pos q,if_pos q,if_pos q]
  ·rw[if_neg q,if_neg q,if_neg q]
 ·rw[if_neg h,if_neg h,if_neg h]
def flush:List (Nat×Ending)→List Job→List Nat
 |_,[]=>[]
 |es,j::r=>qH es j++flush (jQ es j) r
theorem sW(es:List (Nat×Ending))(j:Job):(turn es j).num=j.num:=by
 unfold turn
 split
 ·split<;>rfl
 ·rfl
theorem iQ(es:List (Nat×Ending))(n:Nat)(e:Ending)(m:Nat):endingIn ((n,e)::es) m=if n=m then some e else endingIn es m:=by
 unfold endingIn
 rw[List.find?_cons]
 by_cases h:n=m
 ·subst h;simp
 ·have:((n,e).1==m)=false:=by simpa using h
  rw[this,if_neg h]
structure ug(pre:List Job)(es:List (Nat×Ending))(rest:List Job):Prop where
 srt:cV (pre++rest)
 idle:∀x∈rest,x.status≠.waiting→x.tests=[]
 low:∀x∈rest,∀t∈x.tests,t.job<x.num
 tst:∀x∈rest,∀t∈x.tests,∃k∈pre++rest,k.num=t.job∧endingIn es t.job=endOf k
 done:∀x∈pre,∀t∈x.tests,∃k∈pre,k.num=t.job∧live k
theorem V9{pre r:List Job}{x y:Job}(h:cV (pre++x::r))(e:y.num=x.num):cV ((pre++[y])++r):=by
 refine h.vK ?_
 unfold nums
 simp[e]
theorem abL{pre r:List Job}{x k:Job}(h:cV (pre++x::r))(hk:k∈pre++x::r)(lt:k.num<x.num):k∈pre:=by
 rcases List.mem_append.mp hk with h1|h1
 ·exact h1
 ·unfold cV at h
  rw[List.pairwise_append]at h
  have h2:=List.pairwise_cons.mp h.2.1
  rcases List.mem_cons.mp h1 with e|h3
  ·rw[e]at lt;omega
  ·have:=h2.1 k h3;omega
theorem ug.step{pre r:List Job}{es:List (Nat×Ending)}{x:Job}(I:ug pre es (x::r)):ug (pre++[turn es x]) (jQ es x) r:=by
 have mx:x∈pre++x::r:=List.mem_append.mpr (.inr (List.mem_cons_self))
 have later:∀y∈r,x.num<y.num:=fun y hy=>by
  have h:=I.srt
  unfold cV at h
  rw[List.pairwise_append]at h
  exact(List.pairwise_cons.mp h.2.1).1 y hy
 refine⟨V9 I.srt (sW es x),fun y hy=>I.idle y (List.mem_cons_of_mem _ hy),fun y hy=>I.low y (List.mem_cons_of_mem _ hy),fun y hy t ht=>?_,fun y hy t ht=>?_⟩
 ·obtain⟨k,hk,e1,e2⟩:=I.tst y (List.mem_cons_of_mem _ hy) t ht
  by_cases q:k.num=x.num
  ·have kx:k=x:=I.srt.inj hk mx q
   subst kx
   refine⟨turn es k,by simp,by rw[sW];exact e1,?_⟩
   unfold turn jQ
   by_cases h:k.status=.waiting
   ·rw[if_pos h,if_pos h]
    by_cases h2:iH es k.tests=true
    ·rw[if_pos h2,if_pos h2,e2,BR h]
     exact(BR (j:={k with tests:=opened es k.tests}) h).symm
    ·rw[if_neg h2,if_neg h2,iQ,if_pos e1];rfl
   ·rw[if_neg h,if_neg h];exact e2
  ·refine⟨k,?_,e1,?_⟩
   ·rcases List.mem_append.mp hk with h1 | h1
    ·exact List.mem_append.mpr (.inl (List.mem_append.mpr (.inl h1)))
    ·rcases List.mem_cons.mp h1 with h2 | h2
     ·exact absurd (by rw[h2]) q
     ·exact List.mem_append.mpr (.inr h2)
   ·rw[← e2]
    unfold jQ
    split
    ·split
     ·rfl
     ·rw[iQ,if_neg (by omega)]
    ·rfl
 ·rcases List.mem_append.mp hy with h1 | h1
  ·obtain⟨k,hk,e1,l⟩:=I.done y h1 t ht
   exact⟨k,List.mem_append.mpr (.inl hk),e1,l⟩
  ·have hyx:y=turn es x:=by simpa using h1
   subst hyx
   have ht':t∈x.tests∧endingIn es t.job=none:=by
    unfold turn at ht
    by_cases h:x.status=.waiting
    ·rw[if_pos h]at ht
     by_cases h2:iH es x.tests=true
     ·rw[if_pos h2]at ht
      have:=List.mem_filter.mp (show t∈opened es x.tests from ht)
      exact⟨this.1,by simpa using this.2⟩
     ·rw[if_neg h2]at ht
      exact absurd (show t∈([]:List Test)from ht) (by simp)
    ·rw[if_neg h,I.idle x List.mem_cons_self h]at ht
     exact absurd ht (by simp)
   obtain⟨k,hk,e1,e2⟩:=I.tst x List.mem_cons_self t ht'.1
   have lt:=I.low x List.mem_cons_self t ht'.1
   exact⟨k,List.mem_append.mpr (.inl (abL I.srt hk (by omega))),e1,x_.mp (by rw[← e2];exact ht'.2)⟩
theorem ug.all:∀{rest pre:List Job} {es:List (Nat×Ending)},ug pre es rest→ug (pre++tell es rest) [] []
 |[],pre,es,I=>by
  refine⟨by simpa [tell]using I.srt,fun x hx=>(by simp at hx),fun x hx=>(by simp at hx),fun x hx=>(by simp at hx),?_⟩
  simpa [tell]using I.done
 |x::r,pre,es,I=>by
  rw[uG]
  have:=ug.all I.step
  rw[List.append_assoc]at this
  exact this
theorem Cp{s:State}(g:Good s){j:Job}(hj:j∈s.jobs)(hl:live j)(e:Ending):ug [] [(j.num,e)] (setJob s.jobs (atEnd j e)):=by
 have ej:(atEnd j e).num=j.num:=rfl
 refine⟨by rw[List.nil_append];exact g.srt.vK (sJ _ _),fun x hx hn=>?_,fun x hx t ht=>?_,fun x hx t ht=>?_,fun x hx=>(by simp at hx)⟩
 ·rcases eE hx with ⟨rfl,_⟩ | ⟨hx,_⟩
  ·rfl
  ·exact((g.ok x hx).idle hn).1
 ·rcases eE hx with ⟨rfl,_⟩ | ⟨hx,_⟩
  ·exact absurd (show t∈([]:List Test)from ht) (by simp)
  ·exact((g.ok x hx).tst t ht).2.2.2
 ·rw[List.nil_append]
  rcases eE hx with ⟨rfl,_⟩|⟨hx,_⟩
  ·exact absurd (show t∈([]:List Test)from ht) (by simp)
  ·obtain⟨k,hk,e1,l⟩:=g.tst x hx t ht
   by_cases q:k.num=j.num
   ·have:k=j:=g.srt.inj hk hj q
    subst this
    refine⟨atEnd k e,vg hk rfl,e1,?_⟩
    rw[iQ,if_pos e1];rfl
   ·refine⟨k,nY hk (by rw[ej];exact q),e1,?_⟩
    rw[iQ,if_neg (by omega),x_.mpr l];rfl
theorem R8:∀{l:List Job} {es:List (Nat×Ending)} {x:Job},x∈tell es l→∃y∈l,∃es',x=turn es' y
 |[],_,x,h=>by simp[tell]at h
 |j::r,es,x,h=>by
  rw[uG]at h
  rcases List.mem_cons.mp h with h|h
  ·exact⟨j,List.mem_cons_self,es,h⟩
  ·obtain⟨y,hy,es',e⟩:=R8 h
   exact⟨y,List.mem_cons_of_mem _ hy,es',e⟩
theorem Jj{j:Job}(h:sG j)(e:Ending):sG (atEnd j e) :=
 ⟨h.cls,h.prio,h.name,Nat.zero_le _,fun t ht=>(by simp[atEnd]at ht),fun _=>⟨rfl,rfl,rfl,rfl⟩⟩
theorem Xi{es:List (Nat×Ending)}{j:Job}(h:sG j):sG (turn es j):=by
 unfold turn
 split
 ·rename_i hw
  split
  ·refine⟨h.cls,h.prio,h.name,Nat.le_trans (List.length_filter_le _ _) h.few,fun t ht=>h.tst t (List.mem_filter.mp ht).1,fun q=>absurd hw q⟩
  ·exact Jj h _
 ·exact h
theorem TX(es:List (Nat×Ending))(j:Job):(turn es j).due=j.due∨(turn es j).due=0:=by
 unfold turn
 split
 ·split
  ·exact .inl rfl
  ·exact .inr rfl
 ·exact .inl rfl
theorem HQ(es:List (Nat×Ending))(j:Job):(turn es j).waited=j.waited:=by
 unfold turn
 split
 ·split<;>rfl
 ·rfl
theorem J3{s:State}(g:Good s){j:Job}(hj:j∈s.jobs)(hl:live j)(e:Ending):Good (ended s j e).1:=by
 have I:=(Cp g hj hl e).all
 rw[List.nil_append]at I
 have src:∀x∈tell [(j.num,e)] (setJob s.jobs (atEnd j e)),∃y∈s.jobs,y.num=x.num∧sG x∧x.waited=y.waited∧(x.due=y.due∨x.due=0):=fun x hx=>by
  obtain⟨y,hy,es',rfl⟩:=R8 hx
  rcases eE hy with ⟨rfl,_⟩|⟨hy,_⟩
  ·refine⟨j,hj,by rw[sW];rfl,Xi (Jj (g.ok j hj) e),by rw[HQ];rfl,.inr ?_⟩
   rcases TX es' (atEnd j e)with h|h
   ·rw[h];rfl
   ·exact h
  ·exact⟨y,hy,by rw[sW],Xi (g.ok y hy),by rw[HQ],TX es' y⟩
 have nm:nums (tell [(j.num,e)] (setJob s.jobs (atEnd j e)))=nums s.jobs:=by rw[xr,sJ]
 refine⟨g.cap,g.passes,g.aging,g.now,g.next,g.stamp,g.CZ,g.Ij,?_,g.srt.vK nm,fun x hx=>?_,fun x hx=>?_,fun x hx=>?_,fun x hx t ht=>I.done x hx t ht,fun x hx=>?_,fun x hx y hy h0 e1=>?_⟩
 ·have:=congrArg List.length nm
  unfold nums at this
  rw[List.length_map,List.length_map]at this
  show(tell [(j.num,e)] (setJob s.jobs (atEnd j e))).length≤s.cap
  rw[this];exact g.few
 ·obtain⟨y,hy,e1,_⟩:=src x hx
  rw[← e1];exact g.num y hy
 ·exact(src x hx).choose_spec.2.2.1
 ·obtain⟨y,hy,_,_,e1,_⟩:=src x hx
  rw[e1];exact g.wtd y hy
 ·obtain⟨y,hy,_,_,_,h⟩:=src x hx
  show x.due<s.stamp
  rcases h with h|h
  ·rw[h];exact g.due y hy
  ·rw[h];exact g.stamp
 ·obtain⟨x0,hx0,a1,_,_,a2⟩:=src x hx
  obtain⟨y0,hy0,b1,_,_,b2⟩:=src y hy
  have:=g.inj x0 hx0 y0 hy0 (by omega) (by omega)
  omega
theorem Q9{es:List (Nat×Ending)}{x:Job}(h:x.status=.waiting):isWaiting (turn es x)=iH es x.tests:=by
 unfold turn
 rw[if_pos h]
 cases q:iH es x.tests with
 |true=>rw[if_pos rfl];show(x.status==Status.waiting)=true;rw[h];rfl
 |false=>rw[if_neg (by simp)];rfl
theorem El:∀{l:List Job} {es:List (Nat×Ending)},cV l →
  (l.filter fun x=>isWaiting x&&(tell es l).any fun y=>y.num==x.num&&!isWaiting y).map (·.num)=flush es l
 |[],_,_=>rfl
 |j::r,es,hs=>by
  have h':=List.pairwise_cons.mp hs
  have tail:(r.filter fun x=>isWaiting x&&(tell es (j::r)).any fun y=>y.num==x.num&&!isWaiting y)
    = r.filter fun x=>isWaiting x&&(tell (jQ es j) r).any fun y=>y.num==x.num&&!isWaiting y:=by
   apply List.filter_congr
   intro x hx
   rw[uG,List.any_cons]
   have:((turn es j).num==x.num)=false:=by
    rw[sW];have:=h'.1 x hx;exact beq_eq_false_iff_ne.mpr (by omega)
   rw[this,Bool.false_and,Bool.false_or]
  have head:(tell es (j::r)).any (fun y=>y.num==j.num&&!isWaiting y)=!isWaiting (turn es j):=by
   rw[uG,List.any_cons]
   have a:((turn es j).num==j.num)=true:=by rw[sW];exact beq_self_eq_true _
   have b:(tell (jQ es j) r).any (fun y=>y.num==j.num&&!isWaiting y)=false:=by
    rw[List.any_eq_false]
    intro y hy
    have:y.num∈nums r:=by rw[← xr r (jQ es j)];exact List.mem_map_of_mem hy
    obtain⟨z,hz,ez⟩:=List.mem_map.mp this
    have lt:=h'.1 z hz
    have:(y.num==j.num)=false:=beq_eq_false_iff_ne.mpr (by omega)
    simp[this]
   rw[a,b,Bool.true_and,Bool.or_false]
  rw[List.filter_cons,head,tail]
  show _=qH es j++flush (jQ es j) r
  rw[← El h'.2]
  unfold qH
  by_cases h:j.status=.waiting
  ·have w:isWaiting j=true:=by unfold isWaiting;rw[h];rfl
   rw[if_pos h,w,Q9 h,Bool.true_and]
   cases q:iH es j.tests with
   |true=>rw[if_neg (by simp),if_pos rfl];rfl
   |false=>rw[if_pos (by simp),if_neg (by simp)];rfl
  ·have w:isWaiting j=false:=by
    unfold isWaiting;cases q:j.status with
    |waiting=>exact absurd q h
    |running=>rfl
    |ended e=>rfl
   rw[if_neg h,w,Bool.false_and,if_neg (by simp)];rfl
theorem RD{s:State}(g:Good s){j:Job}(e:Ending):(ended s j e).2=flush [(j.num,e)] (setJob s.jobs (atEnd j e)):=by
 rw[← El (g.srt.vK (sJ _ _))]
 show(s.jobs.filter fun x=>isWaiting x&&(x.num != j.num&&(tell [(j.num,e)] (setJob s.jobs (atEnd j e))).any fun y=>y.num==x.num&&!isWaiting y)).map (fun x=>x.num)=_
 generalize tell [(j.num,e)] (setJob s.jobs (atEnd j e))=L
 unfold setJob
 rw[List.filter_map,List.map_map]
 have a:(s.jobs.filter fun x=>isWaiting x&&(x.num != j.num&&L.any fun y=>y.num==x.num&&!isWaiting y))
   = s.jobs.filter ((fun x=>isWaiting x&&L.any fun y=>y.num==x.num&&!isWaiting y)∘fun x=>if x.num=(atEnd j e).num then atEnd j e else x):=by
  apply List.filter_congr
  intro x _
  show _=(isWaiting (if x.num=j.num then atEnd j e else x)&&L.any fun y=>y.num==(if x.num=j.num then atEnd j e else x).num&&!isWaiting y)
  by_cases q:x.num=j.num
  ·rw[if_pos q]
   have:(x.num != j.num)=false:=by simpa using q
   rw[this,Bool.false_and,Bool.and_false];rfl
  ·rw[if_neg q]
   have:(x.num != j.num)=true:=by simpa using q
   rw[this,Bool.true_and]
 rw[a]
 apply List.map_congr_left
 intro x _
 show x.num=(if x.num=j.num then atEnd j e else x).num
 by_cases q:x.num=j.num
 ·rw[if_pos q];exact q
 ·rw[if_neg q]
end Jq
end
section
set_option autoImplicit false
namespace Jq
open Vbbhaj
theorem jJ{s:State}{x:Init}{p:Nat}:∀{l:List Job} {st:Nat} {y:Job},y∈(passOver s x p st l).2 →
  ∃z∈l,y.num=z.num∧y.name=z.name∧y.cls=z.cls∧y.prio=z.prio∧y.held=z.held∧y.status=z.status∧y.tests=z.tests∧y.waited=z.waited∧((y=z)∨(z.num≠p∧free s x z=true))
 |[],_,y,h=>by simp[passOver]at h
 |j::r,st,y,h=>by
  unfold passOver at h
  by_cases q:j.num≠p∧free s x j=true
  ·rw[if_pos q]at h
   rcases List.mem_cons.mp h with h|h
   ·subst h;exact⟨j,List.mem_cons_self,rfl,rfl,rfl,rfl,rfl,rfl,rfl,rfl,.inr q⟩
   ·obtain⟨z,hz,a⟩:=jJ h
    exact⟨z,List.mem_cons_of_mem _ hz,a⟩
  ·rw[if_neg q]at h
   rcases List.mem_cons.mp h with h|h
   ·subst h;exact⟨y,List.mem_cons_self,rfl,rfl,rfl,rfl,rfl,rfl,rfl,rfl,.inl rfl⟩
   ·obtain⟨z,hz,a⟩:=jJ h
    exact⟨z,List.mem_cons_of_mem _ hz,a⟩
theorem mU{s:State}{x:Init}{p:Nat}:∀{l:List Job} {st:Nat} {z:Job},z∈l →
  ∃y∈(passOver s x p st l).2,y.num=z.num∧y.status=z.status∧(z.num=p→y=z)
 |[],_,z,h=>by simp at h
 |j::r,st,z,h=>by
  unfold passOver
  by_cases q:j.num≠p∧free s x j=true
  ·rw[if_pos q]
   rcases List.mem_cons.mp h with h|h
   ·subst h;exact⟨_,List.mem_cons_self,rfl,rfl,fun e=>absurd e q.1⟩
   ·obtain⟨y,hy,a⟩:=mU (l:=r) h
    exact⟨y,List.mem_cons_of_mem _ hy,a⟩
  ·rw[if_neg q]
   rcases List.mem_cons.mp h with h|h
   ·subst h;exact⟨_,List.mem_cons_self,rfl,rfl,fun _=>rfl⟩
   ·obtain⟨y,hy,a⟩:=mU (l:=r) h
    exact⟨y,List.mem_cons_of_mem _ hy,a⟩
theorem jj{s:State}{x:Init}{p:Nat}:∀(l:List Job) (st:Nat),st≤(passOver s x p st l).1 ∧
  (∀y∈(passOver s x p st l).2,(st≤y.due∧y.due<(passOver s x p st l).1)∨∃z∈l,z.num=y.num∧y.due=z.due)
 |[],st=>⟨Nat.le_refl _,fun y h=>by simp[passOver]at h⟩
 |j::r,st=>by
  unfold passOver
  by_cases q:j.num≠p∧free s x j=true
  ·rw[if_pos q]
   by_cases h0:j.due=0∧s.passes≤j.passed+1
   ·simp only[if_pos h0]
    obtain⟨a,b⟩:=jj (s:=s) (x:=x) (p:=p) r (st+1)
    refine⟨by omega,fun y hy=>?_⟩
    rcases List.mem_cons.mp hy with hy|hy
    ·subst hy;exact .inl ⟨Nat.le_refl _,by show st<_;omega⟩
    ·rcases b y hy with b | ⟨z,hz,e⟩
     ·exact .inl ⟨by omega,b.2⟩
     ·exact .inr ⟨z,List.mem_cons_of_mem _ hz,e⟩
   ·simp only[if_neg h0]
    obtain⟨a,b⟩:=jj (s:=s) (x:=x) (p:=p) r st
    refine⟨a,fun y hy=>?_⟩
    rcases List.mem_cons.mp hy with hy|hy
    ·subst hy;exact .inr ⟨j,List.mem_cons_self,rfl,rfl⟩
    ·rcases b y hy with b | ⟨z,hz,e⟩
     ·exact .inl b
     ·exact .inr ⟨z,List.mem_cons_of_mem _ hz,e⟩
  ·rw[if_neg q]
   obtain⟨a,b⟩:=jj (s:=s) (x:=x) (p:=p) r st
   refine⟨a,fun y hy=>?_⟩
   rcases List.mem_cons.mp hy with hy|hy
   ·subst hy;exact .inr ⟨y,List.mem_cons_self,rfl,rfl⟩
   ·rcases b y hy with b | ⟨z,hz,e⟩
    ·exact .inl b
    ·exact .inr ⟨z,List.mem_cons_of_mem _ hz,e⟩
theorem EY{s:State}{x:Init}{p:Nat}:∀(l:List Job) (st:Nat),cV l→(∀z∈l,z.due<st)→(∀a∈l,∀b∈l,0<a.due→a.due=b.due→a.num=b.num)→1≤st →
  ∀a∈(passOver s x p st l).2,∀b∈(passOver s x p st l).2,0<a.due→a.due=b.due→a.num=b.num
 |[],st,_,_,_,_=>fun a h=>by simp[passOver]at h
 |j::r,st,hs,hd,hi,h1=>by
  have hs':=List.pairwise_cons.mp hs
  have tail:∀st',st≤st'→∀a∈(passOver s x p st' r).2,∀b∈(passOver s x p st' r).2,0<a.due→a.due=b.due→a.num=b.num:=fun st' hst =>
   EY r st' hs'.2 (fun z hz=>Nat.lt_of_lt_of_le (hd z (List.mem_cons_of_mem _ hz)) hst) (fun a ha b hb=>hi a (List.mem_cons_of_mem _ ha) b (List.mem_cons_of_mem _ hb)) (Nat.le_trans h1 hst)
  have keep:∀(st':Nat) (j':Job),st≤st'→j'.num=j.num→j'.due=j.due→∀b∈(passOver s x p st' r).2,0<j'.due→j'.due=b.due→j'.num=b.num:=fun st' j' hst e1 e2 b hb h0 e=>by
   rcases(jj (s:=s) (x:=x) (p:=p) r st').2 b hb with c|⟨z,hz,n,d⟩
   ·have:=hd j List.mem_cons_self;omega
   ·rw[e1,← n];exact hi j List.mem_cons_self z (List.mem_cons_of_mem _ hz) (by omega) (by omega)
  have key:∀(st':Nat) (j':Job),st≤st'→j'.num=j.num→(∀b∈(passOver s x p st' r).2,0<j'.due→j'.due=b.due→j'.num=b.num) →
    ∀a∈j'::(passOver s x p st' r).2,∀b∈j'::(passOver s x p st' r).2,0<a.due→a.due=b.due→a.num=b.num:=fun st' j' hst e1 hk a ha b hb h0 e=>by
   rcases List.mem_cons.mp ha with ea|ha'
   ·rcases List.mem_cons.mp hb with eb | hb'
    ·rw[ea,eb]
    ·subst ea;exact hk b hb' h0 e
   ·rcases List.mem_cons.mp hb with eb | hb'
    ·subst eb;exact(hk a ha' (by omega) e.symm).symm
    ·exact tail st' hst a ha' b hb' h0 e
  unfold passOver
  by_cases q:j.num≠p∧free s x j=true
  ·rw[if_pos q]
   by_cases h0:j.due=0∧s.passes≤j.passed+1
   ·simp only[if_pos h0]
    refine key (st+1) _ (by omega) rfl fun b hb _ e=>?_
    have e:st=b.due:=e
    rcases(jj (s:=s) (x:=x) (p:=p) r (st+1)).2 b hb with c|⟨z,hz,n,d⟩
    ·omega
    ·have:=hd z (List.mem_cons_of_mem _ hz);omega
   ·simp only[if_neg h0]
    exact key st _ (Nat.le_refl _) rfl (keep st _ (Nat.le_refl _) rfl rfl)
  ·rw[if_neg q]
   exact key st j (Nat.le_refl _) rfl (keep st j (Nat.le_refl _) rfl rfl)
theorem rW{j:Job}(h:ready j=true):j.status=.waiting∧j.held=false∧j.tests=[]:=by
 unfold ready isWaiting at h
 rw[Bool.and_eq_true,Bool.and_eq_true]at h
 refine⟨eq_of_beq h.1,by simpa using h.2.1,by simpa using h.2.2⟩
theorem CQ{s:State}{x:Init}{j:Job}(h:free s x j=true):ready j=true:=by
 unfold free at h
 rw[Bool.and_eq_true]at h
 exact h.1
theorem Vv{j:Job}(h:sG j)(r:ready j=true):sG {j with status:=.running,passed:=0,due:=0}:=by
 obtain⟨_,h2,h3⟩:=rW r
 refine⟨h.cls,h.prio,h.name,h.few,h.tst,fun _=>⟨h3,h2,rfl,rfl⟩⟩
theorem RQ{s:State}(g:Good s)(x:Init)(p:Nat):Good {s with stamp:=(passOver s x p s.stamp s.jobs).1,jobs:=(passOver s x p s.stamp s.jobs).2}:=by
 have nm:=wy s x p s.jobs s.stamp
 obtain⟨st1,st2⟩:=jj (s:=s) (x:=x) (p:=p) s.jobs s.stamp
 have okj:∀y∈(passOver s x p s.stamp s.jobs).2,sG y:=fun y hy=>by
  obtain⟨z,hz,e1,e2,e3,e4,e5,e6,e7,e8,e9⟩:=jJ hy
  have h:=g.ok z hz
  refine⟨by rw[e3];exact h.cls,by rw[e4];exact h.prio,by rw[e2];exact h.name,by rw[e7];exact h.few,by rw[e7,e1];exact h.tst,fun q=>?_⟩
  rcases e9 with e9|e9
  ·rw[e9]at q ⊢;exact h.idle q
  ·exact absurd (by rw[e6];exact(rW (CQ e9.2)).1) q
 refine⟨g.cap,g.passes,g.aging,g.now,g.next,Nat.le_trans g.stamp st1,g.CZ,g.Ij,?_,g.srt.vK nm,fun y hy=>?_,okj,fun y hy=>?_,fun y hy t ht=>?_,fun y hy=>?_,?_⟩
 ·have:=congrArg List.length nm
  unfold nums at this
  rw[List.length_map,List.length_map]at this
  show(passOver s x p s.stamp s.jobs).2.length≤s.cap
  rw[this];exact g.few
 ·obtain⟨z,hz,e1,_⟩:=jJ hy
  rw[e1];exact g.num z hz
 ·obtain⟨z,hz,_,_,_,_,_,_,_,e8,_⟩:=jJ hy
  rw[e8];exact g.wtd z hz
 ·obtain⟨z,hz,_,_,_,_,_,_,e7,_,_⟩:=jJ hy
  rw[e7]at ht
  obtain⟨k,hk,e,l⟩:=g.tst z hz t ht
  obtain⟨k',hk',n,e6,_⟩:=mU (s:=s) (x:=x) (p:=p) (st:=s.stamp) hk
  exact⟨k',hk',by rw[n];exact e,fun en q=>l en (by rw[← e6];exact q)⟩
 ·show y.due<(passOver s x p s.stamp s.jobs).1
  rcases st2 y hy with c|⟨z,hz,_,d⟩
  ·exact c.2
  ·rw[d];exact Nat.lt_of_lt_of_le (g.due z hz) st1
 ·exact EY s.jobs s.stamp g.srt g.due g.inj g.stamp
theorem RT{s:State}(g:Good s){j:Job}(hj:j∈s.jobs)(r:ready j=true)(i:Int):Good (picked s i j):=by
 have g1:=RQ g (initAt s i) j.num
 obtain⟨y,hy,_,_,e⟩:=mU (s:=s) (x:=initAt s i) (p:=j.num) (st:=s.stamp) hj
 have hy':j∈(passOver s (initAt s i) j.num s.stamp s.jobs).2:=by have:=e rfl;rw[this]at hy;exact hy
 have g2:=g1.setJob (j:=j) (j':={j with status:=.running,passed:=0,due:=0}) hy' rfl (Vv (g.ok j hj) r) (g.wtd j hj) (.inr rfl) (fun _ en q=>by cases q) (fun t ht=>ht)
 exact g2.setInit i _
def runs(l:List Job)(n:Nat):Prop:=∃j∈l,j.num=n∧j.status=.running
structure Ini(xs:List Init)(l:List Job):Prop where
 run:∀x∈xs,x.job≠0→x.on=true∧runs l x.job
 off:∀x∈xs,x.on=false→x={}
 drn:∀x∈xs,x.draining=true→x.job≠0
 uni:∀(i k:Nat) (x y:Init),xs[i]?=some x→xs[k]?=some y→x.job≠0→x.job=y.job→i=k
 byi:∀n,runs l n→∃x∈xs,x.job=n
 cls:∀x∈xs,x.on=true→areClasses (x.classes.map Int.ofNat)=true
theorem Ini.congr{xs:List Init}{l l':List Job}(h:Ini xs l)(e:∀n,runs l n↔runs l' n):Ini xs l' :=
 ⟨fun x hx q=>⟨(h.run x hx q).1,(e _).mp (h.run x hx q).2⟩,h.off,h.drn,h.uni,fun n q=>h.byi n ((e n).mpr q),h.cls⟩
theorem HJ{l:List Job}(hs:cV l){j j':Job}(hj:j∈l)(e:j'.num=j.num)(st:j'.status=.running↔j.status=.running)(n:Nat):runs l n↔runs (setJob l j') n:=by
 constructor
 ·rintro⟨k,hk,e1,e2⟩
  by_cases q:k.num=j'.num
  ·have:k=j:=hs.inj hk hj (by omega)
   subst this
   exact⟨j',vg hk q,by omega,st.mpr e2⟩
  ·exact⟨k,nY hk q,e1,e2⟩
 ·rintro⟨k,hk,e1,e2⟩
  rcases eE hk with ⟨rfl,_⟩|⟨hk,_⟩
  ·exact⟨j,hj,by omega,st.mp e2⟩
  ·exact⟨k,hk,e1,e2⟩
theorem Fp(es:List (Nat×Ending))(j:Job):(turn es j).status=.running↔j.status=.running:=by
 unfold turn
 by_cases h:j.status=.waiting
 ·rw[if_pos h]
  split
  ·exact Iff.rfl
  ·constructor
   ·intro q;cases q
   ·intro q;rw[h]at q;cases q
 ·rw[if_neg h]
theorem GK:∀(l:List Job) (es:List (Nat×Ending)) (n:Nat),runs l n↔runs (tell es l) n
 |[],_,n=>Iff.rfl
 |j::r,es,n=>by
  rw[uG]
  have ih:=GK r (jQ es j) n
  constructor
  ·rintro⟨k,hk,e1,e2⟩
   rcases List.mem_cons.mp hk with q|hk
   ·subst q;exact⟨_,List.mem_cons_self,by rw[sW];exact e1,(Fp es k).mpr e2⟩
   ·obtain⟨k',hk',a⟩:=ih.mp ⟨k,hk,e1,e2⟩
    exact⟨k',List.mem_cons_of_mem _ hk',a⟩
  ·rintro⟨k,hk,e1,e2⟩
   rcases List.mem_cons.mp hk with q|hk
   ·subst q;exact⟨j,List.mem_cons_self,by rw[sW]at e1;exact e1,(Fp es j).mp e2⟩
   ·obtain⟨k',hk',a⟩:=ih.mpr ⟨k,hk,e1,e2⟩
    exact⟨k',List.mem_cons_of_mem _ hk',a⟩
theorem M3{s:State}{x:Init}{p:Nat}(l:List Job)(st:Nat)(n:Nat):runs l n↔runs (passOver s x p st l).2 n:=by
 constructor
 ·rintro⟨k,hk,e1,e2⟩
  obtain⟨y,hy,a,b,_⟩:=mU (s:=s) (x:=x) (p:=p) (st:=st) hk
  exact⟨y,hy,by omega,by rw[b];exact e2⟩
 ·rintro⟨k,hk,e1,e2⟩
  obtain⟨z,hz,a,_,_,_,_,b,_⟩:=jJ hk
  exact⟨z,hz,by omega,by rw[← b];exact e2⟩
theorem KY{l:List Job}{j j':Job}(e:j'.num=j.num)(st:j'.status≠.running)(n:Nat):runs (setJob l j') n↔runs l n∧n≠j.num:=by
 constructor
 ·rintro⟨k,hk,e1,e2⟩
  rcases eE hk with ⟨rfl,_⟩|⟨hk,q⟩
  ·exact absurd e2 st
  ·exact⟨⟨k,hk,e1,e2⟩,by omega⟩
 ·rintro⟨⟨k,hk,e1,e2⟩,q⟩
  exact⟨k,nY hk (by omega),e1,e2⟩
theorem QM{l:List Job}{j j':Job}(hj:j∈l)(e:j'.num=j.num)(st:j'.status=.running)(n:Nat):runs (setJob l j') n↔runs l n∨n=j.num:=by
 constructor
 ·rintro⟨k,hk,e1,e2⟩
  rcases eE hk with ⟨rfl,_⟩|⟨hk,q⟩
  ·exact .inr (by omega)
  ·exact .inl ⟨k,hk,e1,e2⟩
 ·rintro(⟨k,hk,e1,e2⟩ | q)
  ·by_cases h:k.num=j'.num
   ·exact⟨j',vg hk h,by omega,st⟩
   ·exact⟨k,nY hk h,e1,e2⟩
  ·exact⟨j',vg hj e.symm,by omega,st⟩
theorem WT(l:List Job)(h:l=[]):Ini (List.replicate INITS {}) l:=by
 subst h
 have e:∀x:Init,x∈List.replicate INITS ({}:Init)→x={}:=fun x hx=>(List.mem_replicate.mp hx).2
 refine⟨fun x hx q=>?_,fun x hx _=>e x hx,fun x hx q=>?_,fun i k x y hx hy q=>?_,fun n ⟨j,hj,_⟩=>(by cases hj),fun x hx q=>?_⟩
 ·rw[e x hx]at q;exact absurd rfl q
 ·rw[e x hx]at q;cases q
 ·rw[e x (List.mem_of_getElem? hx)]at q;exact absurd rfl q
 ·rw[e x hx]at q;cases q
theorem Ini.set{xs:List Init}{l l':List Job}(h:Ini xs l){i:Nat}{x y:Init}(hi:xs[i]?=some x)
  (run:y.job≠0→y.on=true∧runs l' y.job) (off:y.on=false→y={}) (drn:y.draining=true→y.job≠0) (cls:y.on=true→areClasses (y.classes.map Int.ofNat)=true)
  (old:∀n,runs l n→n≠x.job→runs l' n) (new:∀n,runs l' n→n=y.job∨(runs l n∧n≠x.job)) (uni:y.job≠0→y.job=x.job∨¬runs l y.job):Ini (xs.set i y) l':=by
 have hil:i<xs.length:=(List.getElem?_eq_some_iff.mp hi).1
 have mem:∀z∈xs.set i y,z=y∨∃k,k≠i∧xs[k]?=some z:=fun z hz=>by
  obtain⟨k,hk⟩:=List.getElem?_of_mem hz
  by_cases q:i=k
  ·subst q;rw[List.getElem?_set_self hil]at hk;exact .inl (Option.some.inj hk).symm
  ·rw[List.getElem?_set_ne q]at hk;exact .inr ⟨k,fun e=>q e.symm,hk⟩
 have other:∀(k:Nat) (z:Init),k≠i→xs[k]?=some z→z.job≠0→z.job≠x.job:=fun k z hk hz q e=>hk (h.uni k i z x hz hi q e)
 refine⟨fun z hz q=>?_,fun z hz q=>?_,fun z hz q=>?_,fun a b z1 z2 h1 h2 q e=>?_,fun n hn=>?_,fun z hz q=>?_⟩
 ·rcases mem z hz with rfl | ⟨k,hk,hz'⟩
  ·exact run q
  ·have:=h.run z (List.mem_of_getElem? hz') q
   exact⟨this.1,old _ this.2 (other k z hk hz' q)⟩
 ·rcases mem z hz with rfl | ⟨k,hk,hz'⟩
  ·exact off q
  ·exact h.off z (List.mem_of_getElem? hz') q
 ·rcases mem z hz with rfl | ⟨k,hk,hz'⟩
  ·exact drn q
  ·exact h.drn z (List.mem_of_getElem? hz') q
 ·by_cases qa:i=a
  ·subst qa
   rw[List.getElem?_set_self hil]at h1
   have e1:y=z1:=Option.some.inj h1
   subst e1
   by_cases qb:i=b
   ·exact qb
   ·rw[List.getElem?_set_ne qb]at h2
    rcases uni q with u|u
    ·exact absurd (by rw[← e,u]) (other b z2 (fun z=>qb z.symm) h2 (by rw[← e];exact q))
    ·exact absurd (by rw[e];exact(h.run z2 (List.mem_of_getElem? h2) (by rw[← e];exact q)).2) u
  ·rw[List.getElem?_set_ne qa]at h1
   by_cases qb:i=b
   ·subst qb
    rw[List.getElem?_set_self hil]at h2
    have e1:y=z2:=Option.some.inj h2
    subst e1
    rcases uni (by rw[← e];exact q)with u|u
    ·exact absurd (by rw[e,u]) (other a z1 (fun z=>qa z.symm) h1 q)
    ·exact absurd (by rw[← e];exact(h.run z1 (List.mem_of_getElem? h1) q).2) u
   ·rw[List.getElem?_set_ne qb]at h2
    exact h.uni a b z1 z2 h1 h2 q e
 ·rcases new n hn with e | ⟨r,ne⟩
  ·exact⟨y,List.mem_of_getElem? (List.getElem?_set_self hil),e.symm⟩
  ·obtain⟨z,hz,ez⟩:=h.byi n r
   obtain⟨k,hk⟩:=List.getElem?_of_mem hz
   have:i≠k:=fun q=>by
    subst q
    rw[hi]at hk
    have:x=z:=Option.some.inj hk
    exact ne (by rw[this];exact ez.symm)
   exact⟨z,List.mem_of_getElem? (show(xs.set i y)[k]?=some z by rw[List.getElem?_set_ne this];exact hk),ez⟩
 ·rcases mem z hz with rfl | ⟨k,hk,hz'⟩
  ·exact cls q
  ·exact h.cls z (List.mem_of_getElem? hz') q
end Jq
end
section
set_option autoImplicit false
namespace Jq
open Vbbhaj
structure Inv(s:State):Prop where
 g:Good s
 i:Ini s.inits s.jobs
def gW(l:List Job):List (Nat×Ending):=l.filterMap fun j=>match j.status with
 |.ended e=>some (j.num,e)
 |_=>none
theorem Hs(j:Job)(l:List Job):gW (j::l)=match endOf j with
  |some e=>(j.num,e)::gW l
  |none=>gW l:=by
 unfold gW endOf
 rw[List.filterMap_cons]
 cases j.status<;>rfl
theorem BW:∀{l:List Job} {n:Nat},(∀k∈l,k.num≠n)→endingIn (gW l) n=none
 |[],n,_=>rfl
 |j::l,n,h=>by
  have ih:=BW (l:=l) (n:=n) fun k hk=>h k (List.mem_cons_of_mem _ hk)
  rw[Hs]
  cases endOf j with
  |none=>exact ih
  |some e=>show endingIn ((j.num,e)::gW l) n=none;rw[iQ,if_neg (h j List.mem_cons_self)];exact ih
theorem um:∀{l:List Job},cV l→∀{k:Job},k∈l→endingIn (gW l) k.num=endOf k
 |[],_,k,h=>by cases h
 |j::l,hs,k,h=>by
  have h':=List.pairwise_cons.mp hs
  rw[Hs]
  rcases List.mem_cons.mp h with e|hk
  ·subst e
   cases q:endOf k with
   |none=>exact BW fun z hz e=>by have:=h'.1 z hz;omega
   |some e=>show endingIn ((k.num,e)::gW l) k.num=some e;rw[iQ,if_pos rfl]
  ·have lt:=h'.1 k hk
   have ih:=um h'.2 hk
   cases endOf j with
   |none=>exact ih
   |some e=>show endingIn ((j.num,e)::gW l) k.num=endOf k;rw[iQ,if_neg (by omega)];exact ih
theorem bI{n lo hi:Int}:inside n lo hi=true↔lo≤n∧n≤hi:=by unfold inside;exact decide_eq_true_iff
theorem not_false{b:Bool}(h:¬b=false):b=true:=by cases b<;>simp_all
theorem Inv.setJob{s:State}(v:Inv s){j j':Job}(hj:j∈s.jobs)(e:j'.num=j.num)(ok:sG j')(hw:j'.waited≤s.now)(hd:j'.due=j.due∨j'.due=0)(st:j'.status=j.status)
  (ht:∀t∈j'.tests,t∈j.tests):Inv {s with jobs:=Vbbhaj.setJob s.jobs j'} :=
 ⟨v.g.setJob hj e ok hw hd (fun l en q=>l en (by rw[← st];exact q)) ht,v.i.congr (HJ v.g.srt hj e (by rw[st]))⟩
theorem rR{j:Job}:isWaiting j=true↔j.status=.waiting:=by
 unfold isWaiting
 exact⟨fun h=>eq_of_beq h,fun h=>by rw[h];rfl⟩
theorem lq{s:State}(g:Good s){i:Int}(h:isInit i=true):s.inits[i.toNat - 1]?=some (initAt s i):=by
 have:=bI.mp h
 have hl:i.toNat - 1<s.inits.length:=by rw[g.Ij];omega
 unfold initAt
 rw[List.getElem?_eq_getElem hl,List.getD_eq_getElem?_getD,List.getElem?_eq_getElem hl];rfl
theorem jG{s:State}(g:Good s){i:Int}(h:isInit i=true):initAt s i∈s.inits:=List.mem_of_getElem? (lq g h)
theorem D_{b:Job→Job→Bool}:∀{l:List Job} {j:Job},best b l=some j→j∈l
 |[],j,h=>by simp[best]at h
 |x::r,j,h=>by
  unfold best at h
  cases q:best b r with
  |none=>rw[q]at h;rw[Option.some.inj h];exact List.mem_cons_self
  |some k =>
   rw[q]at h
   dsimp only at h
   split at h
   ·rw[Option.some.inj h];exact List.mem_cons_self
   ·rw[← Option.some.inj h];exact List.mem_cons_of_mem _ (D_ q)
theorem Hn{s:State}{x:Init}{j:Job}(h:chosen s x=some j):j∈s.jobs∧free s x j=true:=by
 unfold chosen at h
 dsimp only at h
 cases q:best sooner ((s.jobs.filter (free s x)).filter fun j=>decide (0<j.due))with
 |some k =>
  rw[q]at h
  have:=D_ q
  rw[← Option.some.inj h]
  exact List.mem_filter.mp (List.mem_filter.mp this).1
 |none =>
  rw[q]at h
  dsimp only at h
  cases p:x.classes.find? (fun c=>(s.jobs.filter (free s x)).any fun j=>j.cls==c)with
  |none=>rw[p]at h;cases h
  |some c =>
   rw[p]at h
   have:=D_ (show best (higher s) ((s.jobs.filter (free s x)).filter fun j=>j.cls==c)=some j from h)
   exact List.mem_filter.mp (List.mem_filter.mp this).1
theorem Vd{s:State}(v:Inv s)(c p h:Int)(b:Bytes)(t:List Int):Inv (doSubmit s c p h b t).1:=by
 unfold doSubmit
 by_cases h1:isClass c=false∨inside p 0 15=false∨inside h 0 1=false
 ·rw[if_pos h1];exact v
 rw[if_neg h1]
 by_cases h2:isName b=false
 ·rw[if_pos h2];exact v
 rw[if_neg h2]
 cases q:triples t with
 |none=>exact v
 |some ts =>
  dsimp only
  by_cases h3:8<ts.length
  ·rw[if_pos h3];exact v
  rw[if_neg h3]
  by_cases h4:(ts.all fun t=>isNum t.1&&(inside t.2.1 0 3&&inside t.2.2 0 4095))=false
  ·rw[if_pos h4];exact v
  rw[if_neg h4]
  by_cases h5:(ts.all fun t=>(jobAt s t.1).isSome)=false
  ·rw[if_pos h5];exact v
  rw[if_neg h5]
  split
  ·exact v
  ·split
   ·exact v
   ·rename_i h6 h7
    have h4':=List.all_eq_true.mp (not_false h4)
    have h5':=List.all_eq_true.mp (not_false h5)
    have cls:isClass c=true:=not_false fun e=>h1 (.inl e)
    have pri:inside p 0 15=true:=not_false fun e=>h1 (.inr (.inl e))
    have cl:=bI.mp cls
    have pr:=bI.mp pri
    have h7':s.jobs.length<s.cap∧s.next≤999999:=by
     refine⟨?_,?_⟩
     ·have a:¬(s.cap≤s.jobs.length):=fun e=>h7 (.inl e)
      omega
     ·have a:¬(LASTNUM<s.next):=fun e=>h7 (.inr e)
      have b:LASTNUM=999999:=rfl
      omega
    have tj:∀u∈(ts.map fun t=>(⟨t.1.toNat,t.2.1.toNat,t.2.2.toNat⟩:Test)),u.kind≤3∧u.n≤4095∧1≤u.job∧u.job<s.next∧∃k∈s.jobs,k.num=u.job:=fun u hu=>by
     obtain⟨x,hx,rfl⟩:=List.mem_map.mp hu
     have a:=h4' x hx
     rw[Bool.and_eq_true,Bool.and_eq_true]at a
     have a1:=bI.mp a.1
     have a2:=bI.mp a.2.1
     have a3:=bI.mp a.2.2
     obtain⟨k,hk⟩:=Option.isSome_iff_exists.mp (h5' x hx)
     obtain⟨mk,ek⟩:=iI hk
     have:=v.g.num k mk
     refine⟨by show x.2.1.toNat≤3;omega,by show x.2.2.toNat≤4095;omega,by show 1≤x.1.toNat;omega,by show x.1.toNat<s.next;omega,k,mk,by show k.num=x.1.toNat;omega⟩
    have len:((ts.map fun t=>(⟨t.1.toNat,t.2.1.toNat,t.2.2.toNat⟩:Test))).length≤8:=by rw[List.length_map];omega
    generalize (ts.map fun t=>(⟨t.1.toNat,t.2.1.toNat,t.2.2.toNat⟩:Test))=L at tj len h6 ⊢
    have okn:sG {num:=s.next,name:=b,cls:=c.toNat,prio:=p.toNat,held:=h==1,tests:=L.filter fun t=>(endingIn (gW s.jobs) t.job).isNone} :=
     ⟨⟨by show 1≤c.toNat;omega,by show c.toNat≤36;omega⟩,by show p.toNat≤15;omega,not_false h2,Nat.le_trans (List.length_filter_le _ _) len,
      fun u hu=>let z:=tj u (List.mem_filter.mp hu).1;⟨z.1,z.2.1,z.2.2.1,z.2.2.2.1⟩,fun q=>absurd rfl q⟩
    have mem:∀x∈s.jobs++[({num:=s.next,name:=b,cls:=c.toNat,prio:=p.toNat,held:=h==1,tests:=L.filter fun t=>(endingIn (gW s.jobs) t.job).isNone}:Job)],
      x∈s.jobs∨x={num:=s.next,name:=b,cls:=c.toNat,prio:=p.toNat,held:=h==1,tests:=L.filter fun t=>(endingIn (gW s.jobs) t.job).isNone}:=fun x hx=>by
     rcases List.mem_append.mp hx with h|h
     ·exact .inl h
     ·exact .inr (by simpa using h)
    generalize hn:({num:=s.next,name:=b,cls:=c.toNat,prio:=p.toNat,held:=h==1,tests:=L.filter fun t=>(endingIn (gW s.jobs) t.job).isNone}:Job)=nw at okn mem
    have en:nw.num=s.next:=by rw[← hn]
    have ed:nw.due=0:=by rw[← hn]
    have ew:nw.waited=0:=by rw[← hn]
    have es:nw.status=.waiting:=by rw[← hn]
    have et:nw.tests=L.filter fun t=>(endingIn (gW s.jobs) t.job).isNone:=by rw[← hn]
    refine(show Inv {s with next:=s.next+1,jobs:=s.jobs++[nw]}→_ from fun z=>by rw[← hn]at z;exact z) ?_
    refine⟨⟨v.g.cap,v.g.passes,v.g.aging,v.g.now,⟨by show 1≤s.next+1;omega,by show s.next+1≤1000000;omega⟩,v.g.stamp,v.g.CZ,v.g.Ij,by show(s.jobs++[nw]).length≤s.cap;rw[List.length_append];show s.jobs.length+1≤s.cap;omega,?_,fun x hx=>?_,fun x hx=>?_,fun x hx=>?_,fun x hx t ht=>?_,fun x hx=>?_,fun x hx y hy h0 e=>?_⟩,v.i.congr fun n=>⟨?_,?_⟩⟩
    ·unfold cV
     rw[List.pairwise_append]
     refine⟨v.g.srt,List.pairwise_singleton _ _,fun a ha y hy=>?_⟩
     have:y=nw:=by simpa using hy
     rw[this,en];exact(v.g.num a ha).2
    ·rcases mem x hx with h | h
     ·have:=v.g.num x h;exact⟨this.1,by show x.num<s.next+1;omega⟩
     ·rw[h,en];exact⟨v.g.next.1,Nat.lt_succ_self _⟩
    ·rcases mem x hx with h | h
     ·exact v.g.ok x h
     ·rw[h];exact okn
    ·rcases mem x hx with h | h
     ·exact v.g.wtd x h
     ·rw[h,ew];exact Nat.zero_le _
    ·rcases mem x hx with h | h
     ·obtain⟨k,hk,e⟩:=v.g.tst x h t ht
      exact⟨k,List.mem_append.mpr (.inl hk),e⟩
     ·rw[h,et]at ht
      obtain⟨m1,m2⟩:=List.mem_filter.mp ht
      obtain⟨_,_,_,_,k,hk,ek⟩:=tj t m1
      refine⟨k,List.mem_append.mpr (.inl hk),ek,x_.mp ?_⟩
      rw[← um v.g.srt hk,ek]
      simpa using m2
    ·rcases mem x hx with h | h
     ·exact v.g.due x h
     ·rw[h,ed];exact v.g.stamp
    ·rcases mem x hx with h | h
     ·rcases mem y hy with k | k
      ·exact v.g.inj x h y k h0 e
      ·rw[k,ed]at e;omega
     ·rw[h,ed]at h0;omega
    ·rintro⟨k,hk,e⟩
     exact⟨k,List.mem_append.mpr (.inl hk),e⟩
    ·rintro⟨k,hk,e1,e2⟩
     rcases mem k hk with h|h
     ·exact⟨k,h,e1,e2⟩
     ·rw[h,es]at e2;cases e2
theorem rQ{s:State}(v:Inv s)(n:Int)(f:Job→State×Ans)(h:∀j∈s.jobs,j.status=.waiting→Inv (f j).1):Inv (onWaiting s n f).1:=by
 unfold onWaiting
 split
 ·exact v
 ·cases q:jobAt s n with
  |none=>exact v
  |some j =>
   dsimp only
   split
   ·rename_i hw;exact h j (iI q).1 (rR.mp hw)
   ·exact v
theorem Bd{s:State}(v:Inv s)(n:Int)(f:Job→State×Ans)(h:∀j∈s.jobs,Inv (f j).1):Inv (onJob s n f).1:=by
 unfold onJob
 split
 ·exact v
 ·cases q:jobAt s n with
  |none=>exact v
  |some j=>exact h j (iI q).1
theorem okW{j j':Job}(h:sG j)(w:j'.status=.waiting)(e:j'.num=j.num)(n:j'.name=j.name)(t:j'.tests=j.tests)(c:1≤j'.cls∧j'.cls≤36)(p:j'.prio≤15):sG j' :=
 ⟨c,p,by rw[n];exact h.name,by rw[t];exact h.few,by rw[t,e];exact h.tst,fun q=>absurd w q⟩
theorem Z4{s:State}(v:Inv s){i:Int}(h:isInit i=true){j:Job}(hj:jobAt s (initAt s i).job=some j):j∈s.jobs∧j.num=(initAt s i).job∧(initAt s i).job≠0∧j.status=.running∧(initAt s i).on=true:=by
 obtain⟨m,e⟩:=iI hj
 have en:j.num=(initAt s i).job:=by omega
 have n0:(initAt s i).job≠0:=by have:=v.g.num j m;omega
 obtain⟨on,k,hk,e1,e2⟩:=v.i.run _ (jG v.g h) n0
 have:k=j:=v.g.srt.inj hk m (by omega)
 subst this
 exact⟨m,en,n0,e2,on⟩
theorem HR(x:Init):(without x).job=0:=by
 unfold without;split<;>rfl
theorem T6(x:Init):(without x).draining=false:=by
 unfold without
 cases h:x.draining with
 |true=>rfl
 |false=>rw[if_neg (by simp)]
theorem Wk{x:Init}(h:(without x).on=true):x.on=true∧(without x).classes=x.classes:=by
 unfold without at h ⊢
 cases q:x.draining with
 |true=>rw[q]at h;cases h
 |false=>rw[q]at h;exact⟨h,rfl⟩
theorem Hw{s:State}(v:Inv s){i:Int}(h:isInit i=true){l':List Job}{n:Nat}(en:n=(initAt s i).job)(hl:∀m,runs l' m↔runs s.jobs m∧m≠n)(off:(initAt s i).on=true) :
  Ini (s.inits.set (i.toNat - 1) (without (initAt s i))) l':=by
 refine v.i.set (lq v.g h) (fun q=>absurd (HR _) q) (fun q=>?_) (fun q=>?_) (fun q=>?_) (fun m r ne=>(hl m).mpr ⟨r,by omega⟩) (fun m r=>.inr ⟨((hl m).mp r).1,by have:=((hl m).mp r).2;omega⟩) (fun q=>absurd (HR _) q)
 ·unfold without at q ⊢
  cases d:(initAt s i).draining with
  |true=>rfl
  |false=>rw[d]at q;exact absurd (show(initAt s i).on=false from q) (by rw[off];simp)
 ·rw[T6]at q;cases q
 ·obtain⟨a,b⟩:=Wk q
  rw[b];exact v.i.cls _ (jG v.g h) a
theorem toNat_ofNat(l:List Int)(h:∀x∈l,0≤x):(l.map Int.toNat).map Int.ofNat=l:=by
 rw[List.map_map]
 have:l.map (Int.ofNat∘Int.toNat)=l.map id:=List.map_congr_left fun x hx=>by
  show((x.toNat:Nat):Int)=x
  have:=h x hx;omega
 rw[this,List.map_id]
theorem yW{l:List Int}(h:areClasses l=true):areClasses ((l.map Int.toNat).map Int.ofNat)=true:=by
 rw[toNat_ofNat l]
 ·exact h
 ·unfold areClasses at h
  rw[Bool.and_eq_true,Bool.and_eq_true]at h
  intro x hx
  have:=bI.mp (List.all_eq_true.mp h.2.1 x hx)
  omega
theorem Z1{s:State}(v:Inv s)(c:Call):Inv (step s c).1:=by
 cases c with
 |begin c p a =>
  dsimp only[step]
  by_cases h:inside c 1 500=false∨inside p 1 1000=false∨inside a 1 1000000=false
  ·rw[if_pos h];exact v
  ·rw[if_neg h]
   have h1:=bI.mp (not_false fun e=>h (.inl e))
   have h2:=bI.mp (not_false fun e=>h (.inr (.inl e)))
   have h3:=bI.mp (not_false fun e=>h (.inr (.inr e)))
   exact⟨RP ⟨by omega,by omega⟩ ⟨by omega,by omega⟩ ⟨by omega,by omega⟩,WT _ rfl⟩
 |submit c p h b t=>exact Vd v c p h b t
 |hold n =>
  refine rQ v n _ fun j hj w=>?_
  split
  ·exact v
  ·exact v.setJob hj rfl (okW (v.g.ok j hj) w rfl rfl rfl (v.g.ok j hj).cls (v.g.ok j hj).prio) (v.g.wtd j hj) (.inl rfl) rfl fun t ht=>ht
 |letgo n =>
  refine rQ v n _ fun j hj w=>?_
  split
  ·exact v
  ·exact v.setJob hj rfl (okW (v.g.ok j hj) w rfl rfl rfl (v.g.ok j hj).cls (v.g.ok j hj).prio) (v.g.wtd j hj) (.inl rfl) rfl fun t ht=>ht
 |change n c p =>
  dsimp only[step]
  by_cases h:isClass c=false∨inside p 0 15=false
  ·rw[if_pos h];exact v
  ·rw[if_neg h]
   have h1:=bI.mp (not_false fun e=>h (.inl e))
   have h2:=bI.mp (not_false fun e=>h (.inr e))
   refine rQ v n _ fun j hj w=>?_
   exact v.setJob hj rfl (okW (v.g.ok j hj) w rfl rfl rfl ⟨by show 1≤c.toNat;omega,by show c.toNat≤36;omega⟩ (by show p.toNat≤15;omega)) (v.g.wtd j hj) (.inl rfl) rfl fun t ht=>ht
 |cancel n =>
  refine rQ v n _ fun j hj w=>?_
  refine⟨J3 v.g hj (tE w) _,v.i.congr fun m=>?_⟩
  show runs s.jobs m↔runs (tell _ (Vbbhaj.setJob s.jobs (atEnd j .cancelled))) m
  rw[← GK]
  exact HJ (j':=atEnd j .cancelled) v.g.srt hj rfl (by rw[w];constructor<;>(intro q;cases q)) m
 |forget n =>
  refine Bd v n _ fun j hj=>?_
  split
  ·rename_i en he
   have sub:∀x∈s.jobs.filter (fun x=>x.num != j.num),x∈s.jobs∧x.num≠j.num:=fun x hx=>⟨(List.mem_filter.mp hx).1,by simpa using(List.mem_filter.mp hx).2⟩
   refine⟨⟨v.g.cap,v.g.passes,v.g.aging,v.g.now,v.g.next,v.g.stamp,v.g.CZ,v.g.Ij,Nat.le_trans (List.length_filter_le _ _) v.g.few,List.Pairwise.filter _ v.g.srt,fun x hx=>v.g.num x (sub x hx).1,fun x hx=>v.g.ok x (sub x hx).1,fun x hx=>v.g.wtd x (sub x hx).1,
    fun x hx t ht=>?_,fun x hx=>v.g.due x (sub x hx).1,fun x hx y hy=>v.g.inj x (sub x hx).1 y (sub y hy).1⟩,v.i.congr fun m=>⟨?_,?_⟩⟩
   ·obtain⟨k,hk,e,l⟩:=v.g.tst x (sub x hx).1 t ht
    refine⟨k,List.mem_filter.mpr ⟨hk,?_⟩,e,l⟩
    by_cases q:k.num=j.num
    ·have:k=j:=v.g.srt.inj hk hj q
     subst this
     exact absurd he (l en)
    ·simpa using q
   ·rintro⟨k,hk,e1,e2⟩
    refine⟨k,List.mem_filter.mpr ⟨hk,?_⟩,e1,e2⟩
    by_cases q:k.num=j.num
    ·have:k=j:=v.g.srt.inj hk hj q
     subst this
     rw[he]at e2;cases e2
    ·simpa using q
   ·rintro⟨k,hk,e⟩
    exact⟨k,(sub k hk).1,e⟩
  ·exact v
 |tick n =>
  dsimp only[step]
  by_cases h:inside n 1 1000000=false
  ·rw[if_pos h];exact v
  rw[if_neg h]
  by_cases h2:LASTTIME<s.now+n.toNat
  ·rw[if_pos h2];exact v
  rw[if_neg h2]
  have src:∀x∈s.jobs.map (fun j=>if ready j=true then {j with waited:=j.waited+n.toNat}else j),∃y∈s.jobs,x.num=y.num∧x.status=y.status∧x.due=y.due∧x.tests=y.tests∧sG x∧x.waited≤y.waited+n.toNat:=fun x hx=>by
   obtain⟨y,hy,rfl⟩:=List.mem_map.mp hx
   refine⟨y,hy,?_⟩
   have ok:=v.g.ok y hy
   split
   ·exact⟨rfl,rfl,rfl,rfl,⟨ok.cls,ok.prio,ok.name,ok.few,ok.tst,ok.idle⟩,Nat.le_refl _⟩
   ·exact⟨rfl,rfl,rfl,rfl,ok,Nat.le_add_right _ _⟩
  have tgt:∀y∈s.jobs,∃x∈s.jobs.map (fun j=>if ready j=true then {j with waited:=j.waited+n.toNat}else j),x.num=y.num∧x.status=y.status:=fun y hy=>by
   refine⟨_,List.mem_map_of_mem hy,?_⟩
   split<;>exact⟨rfl,rfl⟩
  have nm:nums (s.jobs.map fun j=>if ready j=true then {j with waited:=j.waited+n.toNat}else j)=nums s.jobs:=by
   unfold nums
   rw[List.map_map]
   apply List.map_congr_left
   intro x _
   show(if ready x=true then {x with waited:=x.waited+n.toNat}else x).num=x.num
   split<;>rfl
  refine⟨⟨v.g.cap,v.g.passes,v.g.aging,?_,v.g.next,v.g.stamp,v.g.CZ,v.g.Ij,by show(s.jobs.map _).length≤s.cap;rw[List.length_map];exact v.g.few,v.g.srt.vK nm,fun x hx=>?_,fun x hx=>?_,fun x hx=>?_,fun x hx t ht=>?_,fun x hx=>?_,fun x hx y hy h0 e=>?_⟩,v.i.congr fun m=>⟨?_,?_⟩⟩
  ·show s.now+n.toNat≤100000000
   unfold LASTTIME at h2
   omega
  ·obtain⟨y,hy,e,_⟩:=src x hx
   rw[e];exact v.g.num y hy
  ·obtain⟨y,hy,_,_,_,_,ok,_⟩:=src x hx
   exact ok
  ·obtain⟨y,hy,_,_,_,_,_,l⟩:=src x hx
   have:=v.g.wtd y hy
   show x.waited≤s.now+n.toNat
   omega
  ·obtain⟨y,hy,_,_,_,e,_⟩:=src x hx
   rw[e]at ht
   obtain⟨k,hk,e1,l⟩:=v.g.tst y hy t ht
   obtain⟨k',hk',a,b⟩:=tgt k hk
   exact⟨k',hk',by omega,fun en q=>l en (by rw[← b];exact q)⟩
  ·obtain⟨y,hy,_,_,e,_⟩:=src x hx
   rw[e];exact v.g.due y hy
  ·obtain⟨x0,hx0,a1,_,a2,_⟩:=src x hx
   obtain⟨y0,hy0,b1,_,b2,_⟩:=src y hy
   have:=v.g.inj x0 hx0 y0 hy0 (by omega) (by omega)
   omega
  ·rintro⟨k,hk,e1,e2⟩
   obtain⟨k',hk',a,b⟩:=tgt k hk
   exact⟨k',hk',by omega,by rw[b];exact e2⟩
  ·rintro⟨k,hk,e1,e2⟩
   obtain⟨y,hy,a,b,_⟩:=src k hk
   exact⟨y,hy,by omega,by rw[← b];exact e2⟩
 |limit c n =>
  dsimp only[step]
  split
  ·exact v
  ·exact⟨v.g.yG _ (by rw[List.length_set];exact v.g.CZ),v.i⟩
 |close c =>
  dsimp only[step]
  split
  ·exact v
  ·split
   ·exact v
   ·exact⟨v.g.yG _ (by rw[List.length_set];exact v.g.CZ),v.i⟩
 |open_ c =>
  dsimp only[step]
  split
  ·exact v
  ·split
   ·exact v
   ·exact⟨v.g.yG _ (by rw[List.length_set];exact v.g.CZ),v.i⟩
 |start i l =>
  dsimp only[step]
  by_cases h:isInit i=false
  ·rw[if_pos h];exact v
  rw[if_neg h]
  by_cases h2:areClasses l=false
  ·rw[if_pos h2];exact v
  rw[if_neg h2]
  by_cases h3:(initAt s i).on=true
  ·rw[if_pos h3];exact v
  rw[if_neg h3]
  have hi:=not_false h
  have x0:=v.i.off _ (jG v.g hi) (by cases q:(initAt s i).on;rfl;exact absurd q h3)
  refine⟨v.g.setInit i _,v.i.set (lq v.g hi) (fun q=>absurd rfl q) (fun q=>by cases q) (fun q=>by cases q) (fun _=>yW (not_false h2)) (fun n r _=>r) (fun n r=>.inr ⟨r,?_⟩) (fun q=>absurd rfl q)⟩
  rw[x0]
  obtain⟨k,hk,e,_⟩:=r
  have:=v.g.num k hk
  show n≠0
  omega
 |serve i l =>
  dsimp only[step]
  by_cases h:isInit i=false
  ·rw[if_pos h];exact v
  rw[if_neg h]
  by_cases h2:areClasses l=false
  ·rw[if_pos h2];exact v
  rw[if_neg h2]
  by_cases h3:(initAt s i).on=false
  ·rw[if_pos h3];exact v
  rw[if_neg h3]
  have hi:=not_false h
  have m:=jG v.g hi
  refine⟨v.g.setInit i _,v.i.set (lq v.g hi) (fun q=>v.i.run (initAt s i) m q) (fun q=>absurd (show(initAt s i).on=false from q) h3) (fun q=>v.i.drn (initAt s i) m q) (fun _=>yW (not_false h2)) (fun n r _=>r) (fun n r=>?_) (fun q=>.inl rfl)⟩
  by_cases q:n=(initAt s i).job
  ·exact .inl q
  ·exact .inr ⟨r,q⟩
 |drain i =>
  dsimp only[step]
  by_cases h:isInit i=false
  ·rw[if_pos h];exact v
  rw[if_neg h]
  by_cases h3:(initAt s i).on=false
  ·rw[if_pos h3];exact v
  rw[if_neg h3]
  by_cases h4:(initAt s i).draining=true
  ·rw[if_pos h4];exact v
  rw[if_neg h4]
  have hi:=not_false h
  have m:=jG v.g hi
  by_cases h5:(initAt s i).job=0
  ·rw[if_pos h5]
   refine⟨v.g.setInit i _,v.i.set (lq v.g hi) (fun q=>absurd rfl q) (fun _=>rfl) (fun q=>by cases q) (fun q=>by cases q) (fun n r _=>r) (fun n r=>.inr ⟨r,?_⟩) (fun q=>absurd rfl q)⟩
   obtain⟨k,hk,e,_⟩:=r
   have:=v.g.num k hk
   omega
  ·rw[if_neg h5]
   refine⟨v.g.setInit i _,v.i.set (lq v.g hi) (fun q=>v.i.run (initAt s i) m q) (fun q=>absurd (show(initAt s i).on=false from q) h3) (fun _=>h5) (fun q=>v.i.cls (initAt s i) m q) (fun n r _=>r) (fun n r=>?_) (fun q=>.inl rfl)⟩
   by_cases q:n=(initAt s i).job
   ·exact .inl q
   ·exact .inr ⟨r,q⟩
 |pick i =>
  dsimp only[step]
  by_cases h:isInit i=false
  ·rw[if_pos h];exact v
  rw[if_neg h]
  by_cases h3:(initAt s i).on=false
  ·rw[if_pos h3];exact v
  rw[if_neg h3]
  by_cases h4:(initAt s i).job≠0
  ·rw[if_pos h4];exact v
  rw[if_neg h4]
  have hi:=not_false h
  have m:=jG v.g hi
  cases q:chosen s (initAt s i)with
  |none=>exact v
  |some j =>
   obtain⟨hj,fr⟩:=Hn q
   have rd:=CQ fr
   refine⟨RT v.g hj rd i,?_⟩
   obtain⟨y,hy,_,_,e⟩:=mU (s:=s) (x:=initAt s i) (p:=j.num) (st:=s.stamp) hj
   have hy':j∈(passOver s (initAt s i) j.num s.stamp s.jobs).2:=by have:=e rfl;rw[this]at hy;exact hy
   have key:∀n,runs (Vbbhaj.setJob (passOver s (initAt s i) j.num s.stamp s.jobs).2 {j with status:=.running,passed:=0,due:=0}) n↔runs s.jobs n∨n=j.num:=fun n=>by
    rw[QM (j':={j with status:=.running,passed:=0,due:=0}) hy' rfl rfl,← M3]
   have nr:¬runs s.jobs j.num:=fun⟨k,hk,e1,e2⟩=>by
    have:k=j:=v.g.srt.inj hk hj e1
    subst this
    rw[(rW rd).1]at e2;cases e2
   have n1:=(v.g.num j hj).1
   refine v.i.set (lq v.g hi) (fun _=>⟨by cases z:(initAt s i).on;exact absurd z h3;rfl,(key _).mpr (.inr rfl)⟩) (fun z=>absurd (show(initAt s i).on=false from z) h3) (fun z=>absurd (v.i.drn (initAt s i) m z) h4) (fun z=>v.i.cls (initAt s i) m z) (fun n r _=>(key n).mpr (.inl r)) (fun n r=>?_) (fun _=>.inr nr)
   rcases(key n).mp r with r|r
   ·by_cases z:n=0
    ·obtain⟨k,hk,e1,_⟩:=r
     have:=v.g.num k hk;omega
    ·exact .inr ⟨r,fun e=>h4 (by rw[← e];exact z)⟩
   ·exact .inl r
 |peek i =>
  dsimp only[step]
  split
  ·exact v
  ·split
   ·exact v
   ·split<;>exact v
 |finish i a c =>
  show Inv (doFinish s i a c).1
  unfold doFinish
  by_cases h:isInit i=false∨inside a 0 1=false∨inside c 0 4095=false
  ·rw[if_pos h];exact v
  rw[if_neg h]
  have hi:isInit i=true:=not_false fun e=>h (.inl e)
  cases q:jobAt s (initAt s i).job with
  |none=>exact v
  |some j =>
   obtain⟨m,en,n0,st,on⟩:=Z4 v hi q
   have lv:live j:=fun e z=>by rw[st]at z;cases z
   refine⟨(J3 v.g m lv _).setInit i _,?_⟩
   refine Hw v hi en (fun n=>?_) on
   show runs (tell _ (Vbbhaj.setJob s.jobs (atEnd j _))) n↔_
   rw[← GK]
   exact KY (j:=j) (j':=atEnd j _) rfl (by intro z;cases z) n
 |requeue i =>
  dsimp only[step]
  by_cases h:isInit i=false
  ·rw[if_pos h];exact v
  rw[if_neg h]
  have hi:=not_false h
  cases q:jobAt s (initAt s i).job with
  |none=>exact v
  |some j =>
   obtain⟨m,en,n0,st,on⟩:=Z4 v hi q
   have ok:=v.g.ok j m
   have g2:=v.g.setJob (j:=j) (j':={j with status:=.waiting,held:=true}) m rfl ⟨ok.cls,ok.prio,ok.name,ok.few,ok.tst,fun z=>absurd rfl z⟩ (v.g.wtd j m) (.inl rfl) (fun _ e z=>by cases z) (fun t ht=>ht)
   refine⟨g2.setInit i _,Hw v hi en (fun n=>?_) on⟩
   exact KY (j:=j) (j':={j with status:=.waiting,held:=true}) rfl (by intro z;cases z) n
 |order c=>dsimp only[step];split<;>exact v
 |status n=>exact Bd v n _ fun j hj=>v
 |tests n=>exact Bd v n _ fun j hj=>v
 |after n=>exact Bd v n _ fun j hj=>v
 |running=>exact v
 |counts=>exact v
 |initiator i=>dsimp only[step];split<;>exact v
 |class_ c=>dsimp only[step];split<;>exact v
theorem Gm:Inv Vbbhaj.start:=⟨U7,WT _ rfl⟩
end Jq
end
section
set_option autoImplicit false
namespace Jq
open Vbbhaj
section
variable {sh:Int→Option (Nat×Nat)}
theorem UJ{f:Nat}{p:Int}{r:List Int}{cs:List (List (List Int))}(h:PyFlat.calls sh f (p::r)=some cs) :
  ∃(c:List (List Int)) (t:List Int) (cs':List (List (List Int))) (f':Nat),PyFlat.call sh (p::r)=some (c,t)∧cs=c::cs'∧PyFlat.calls sh f' t=some cs':=by
 cases f with
 |zero=>simp[PyFlat.calls]at h
 |succ f =>
  unfold PyFlat.calls at h
  cases q:PyFlat.call sh (p::r)with
  |none=>rw[q]at h;cases h
  |some x =>
   obtain⟨c,t⟩:=x
   rw[q]at h
   dsimp only at h
   cases q2:PyFlat.calls sh f t with
   |none=>rw[q2]at h;cases h
   |some cs' =>
    rw[q2]at h
    exact⟨c,t,cs',f,rfl,(Option.some.inj h).symm,q2⟩
theorem JH{p:Int}{r t:List Int}{c:List (List Int)}(h:PyFlat.call sh (p::r)=some (c,t)) :
  ∃(n k:Nat) (xs:List (List Int)),sh p=some (n,k)∧n≤r.length∧PyFlat.rows k (r.drop n)=some (xs,t)∧c=(p::r.take n)::xs:=by
 unfold PyFlat.call at h
 dsimp only at h
 cases q:sh p with
 |none=>rw[q]at h;cases h
 |some x =>
  obtain⟨n,k⟩:=x
  rw[q]at h
  dsimp only at h
  by_cases hl:r.length<n
  ·rw[if_pos hl]at h;cases h
  ·rw[if_neg hl]at h
   cases q2:PyFlat.rows k (r.drop n)with
   |none=>rw[q2]at h;cases h
   |some y =>
    obtain⟨xs,t'⟩:=y
    rw[q2]at h
    have e:=Option.some.inj h
    have e1:(p::r.take n)::xs=c:=congrArg Prod.fst e
    have e2:t'=t:=congrArg Prod.snd e
    subst e2
    exact⟨n,k,xs,rfl,by omega,q2,e1.symm⟩
end
theorem Oc{r t:List Int}{xs:List (List Int)}(h:PyFlat.rows 0 r=some (xs,t)):xs=[]∧t=r:=by
 have e:=Option.some.inj (show some (([]:List (List Int)),r)=some (xs,t)from h)
 exact⟨(congrArg Prod.fst e).symm,(congrArg Prod.snd e).symm⟩
theorem Ob{k:Nat}{r t:List Int}{xs:List (List Int)}(h:PyFlat.rows (k+1) r=some (xs,t)) :
  ∃(m:Int) (r':List Int) (xs':List (List Int)),r=m::r'∧0≤m∧m.toNat≤r'.length∧xs=r'.take m.toNat::xs'∧PyFlat.rows k (r'.drop m.toNat)=some (xs',t):=by
 unfold PyFlat.rows at h
 cases r with
 |nil=>simp[PyFlat.row]at h
 |cons m r' =>
  unfold PyFlat.row at h
  dsimp only at h
  by_cases q:0≤m∧m.toNat≤r'.length
  ·rw[if_pos q]at h
   dsimp only at h
   cases q2:PyFlat.rows k (r'.drop m.toNat)with
   |none=>rw[q2]at h;cases h
   |some y =>
    obtain⟨xs',t'⟩:=y
    rw[q2]at h
    have e:=Option.some.inj h
    have e1:r'.take m.toNat::xs'=xs:=congrArg Prod.fst e
    have e2:t'=t:=congrArg Prod.snd e
    subst e2
    exact⟨m,r',xs',rfl,q.1,q.2,e1.symm,q2⟩
  ·rw[if_neg q]at h
   cases h
def bytesOf(l:List Int):Bytes:=l.map fun z=>UInt8.ofNat z.toNat
theorem Jx:∀{l:List Int},(l.all fun(z:Int)=>VbbhajNeutral.natural z 8)=true→VbbhajNeutral.bytes? l=some (bytesOf l)
 |[],_=>rfl
 |z::l,h=>by
  rw[List.all_cons,Bool.and_eq_true]at h
  have ih:=Jx (l:=l) h.2
  have hz:0≤z∧z≤255:=by
   have:=h.1
   unfold VbbhajNeutral.natural at this
   rw[Bool.and_eq_true,decide_eq_true_iff,decide_eq_true_iff]at this
   omega
  unfold VbbhajNeutral.bytes? at ih ⊢
  rw[List.mapM_cons,ih]
  have e:VbbhajNeutral.byte? z=some (UInt8.ofNat z.toNat):=if_pos hz
  rw[e]
  rfl
theorem Tp{p:Int}{n k:Nat}(h:PyVbbhaj.shape p=some (n,k)):n≤3∧k≤2:=by
 obtain⟨a,b⟩:=vM h
 obtain⟨i,rfl⟩:∃i:Nat,p=(i:Int):=⟨p.toNat,by omega⟩
 have c:i<26:=by omega
 have z:∀i:Fin 26,(PyVbbhaj.shape ((i:Nat):Int)).all (fun x=>decide (x.1≤3)&&decide (x.2≤2))=true:=by decide +kernel
 have q:=z ⟨i,c⟩
 rw[show PyVbbhaj.shape ((((⟨i,c⟩:Fin 26):Nat)):Int)=some (n,k)from h]at q
 have q:(decide (n≤3)&&decide (k≤2))=true:=q
 rw[Bool.and_eq_true,decide_eq_true_eq,decide_eq_true_eq]at q
 exact q
theorem list_1{α:Type}{l:List α}(h:l.length=1):∃a,l=[a]:=List.length_eq_one_iff.mp h
theorem list_2{α:Type}{l:List α}(h:l.length=2):∃a b,l=[a,b]:=by
 match l,h with
 |[a,b],_=>exact⟨a,b,rfl⟩
theorem list_3{α:Type}{l:List α}(h:l.length=3):∃a b c,l=[a,b,c]:=by
 match l,h with
 |[a,b,c],_=>exact⟨a,b,c,rfl⟩
theorem fP{p:Int}{n k a b:Nat}(h:PyVbbhaj.shape p=some (a,b))(e:PyVbbhaj.shape p=some (n,k)):a=n∧b=k:=by
 have q:=Option.some.inj (h.symm.trans e)
 exact⟨congrArg Prod.fst q,congrArg Prod.snd q⟩
theorem KQ:∀{k:Nat} {r t:List Int} {xs:List (List Int)},PyFlat.rows k r=some (xs,t)→xs.length=k
 |0,r,t,xs,h=>by rw[(Oc h).1];rfl
 |k+1,r,t,xs,h=>by
  obtain⟨m,r',xs',_,_,_,e,h'⟩:=Ob h
  rw[e,List.length_cons,KQ h']
theorem Hl{c p h:Int}{b t:List Int}(q:(b.all fun(z:Int)=>VbbhajNeutral.natural z 8)=true):VbbhajNeutral.callOf [[1,c,p,h],b,t]=some (.submit c p h (bytesOf b) t):=by
 show(VbbhajNeutral.bytes? b).map _=_
 rw[Jx q]
 rfl
theorem abi{c p h:Int}{b t:List Int}(a:VbbhajNeutral.asked1 [[1,c,p,h],b,t]=true):(b.all fun(z:Int)=>VbbhajNeutral.natural z 8)=true:=by
 have a:(VbbhajNeutral.whole64 c&&VbbhajNeutral.whole64 p&&VbbhajNeutral.whole64 h&&((b.all fun(z:Int)=>VbbhajNeutral.natural z 8)&&decide (b.length≤20000))&&((t.all fun(z:Int)=>VbbhajNeutral.whole64 z)&&decide (t.length≤400)))=true:=a
 exact(Bool.and_eq_true_iff.mp (Bool.and_eq_true_iff.mp (Bool.and_eq_true_iff.mp a).1).2).1
theorem Y9{p:Int}{ns:List Int}{rws:List (List Int)}(h:PyVbbhaj.shape p=some (ns.length,rws.length)):PyVbbhaj.whole ((p::ns)::rws)=(p::ns)::rws∧(VbbhajNeutral.asked1 ((p::ns)::rws)=true→∃k,VbbhajNeutral.callOf ((p::ns)::rws)=some k):=by
 obtain⟨a,b⟩:=vM h
 obtain⟨i,rfl⟩:∃i:Nat,p=(i:Int):=⟨p.toNat,by omega⟩
 have c:i<26:=by omega
 rcases i with _|i
 ·obtain⟨e1,e2⟩:=fP (n:=3) (k:=0) h rfl;obtain⟨x,y,z,rfl⟩:=list_3 e1;obtain rfl:=List.length_eq_zero_iff.mp e2;exact⟨rfl,fun _=>⟨_,rfl⟩⟩
 rcases i with _|i
 ·obtain⟨e1,e2⟩:=fP (n:=3) (k:=2) h rfl;obtain⟨x,y,z,rfl⟩:=list_3 e1;obtain⟨u,v,rfl⟩:=list_2 e2;exact⟨rfl,fun a=>⟨_,Hl (abi a)⟩⟩
 rcases i with _|i
 ·obtain⟨e1,e2⟩:=fP (n:=1) (k:=0) h rfl;obtain⟨x,rfl⟩:=list_1 e1;obtain rfl:=List.length_eq_zero_iff.mp e2;exact⟨rfl,fun _=>⟨_,rfl⟩⟩
 rcases i with _|i
 ·obtain⟨e1,e2⟩:=fP (n:=1) (k:=0) h rfl;obtain⟨x,rfl⟩:=list_1 e1;obtain rfl:=List.length_eq_zero_iff.mp e2;exact⟨rfl,fun _=>⟨_,rfl⟩⟩
 rcases i with _|i
 ·obtain⟨e1,e2⟩:=fP (n:=3) (k:=0) h rfl;obtain⟨x,y,z,rfl⟩:=list_3 e1;obtain rfl:=List.length_eq_zero_iff.mp e2;exact⟨rfl,fun _=>⟨_,rfl⟩⟩
 rcases i with _|i
 ·obtain⟨e1,e2⟩:=fP (n:=1) (k:=0) h rfl;obtain⟨x,rfl⟩:=list_1 e1;obtain rfl:=List.length_eq_zero_iff.mp e2;exact⟨rfl,fun _=>⟨_,rfl⟩⟩
 rcases i with _|i
 ·obtain⟨e1,e2⟩:=fP (n:=1) (k:=0) h rfl;obtain⟨x,rfl⟩:=list_1 e1;obtain rfl:=List.length_eq_zero_iff.mp e2;exact⟨rfl,fun _=>⟨_,rfl⟩⟩
 rcases i with _|i
 ·obtain⟨e1,e2⟩:=fP (n:=1) (k:=0) h rfl;obtain⟨x,rfl⟩:=list_1 e1;obtain rfl:=List.length_eq_zero_iff.mp e2;exact⟨rfl,fun _=>⟨_,rfl⟩⟩
 rcases i with _|i
 ·obtain⟨e1,e2⟩:=fP (n:=2) (k:=0) h rfl;obtain⟨x,y,rfl⟩:=list_2 e1;obtain rfl:=List.length_eq_zero_iff.mp e2;exact⟨rfl,fun _=>⟨_,rfl⟩⟩
 rcases i with _|i
 ·obtain⟨e1,e2⟩:=fP (n:=1) (k:=0) h rfl;obtain⟨x,rfl⟩:=list_1 e1;obtain rfl:=List.length_eq_zero_iff.mp e2;exact⟨rfl,fun _=>⟨_,rfl⟩⟩
 rcases i with _|i
 ·obtain⟨e1,e2⟩:=fP (n:=1) (k:=0) h rfl;obtain⟨x,rfl⟩:=list_1 e1;obtain rfl:=List.length_eq_zero_iff.mp e2;exact⟨rfl,fun _=>⟨_,rfl⟩⟩
 rcases i with _|i
 ·obtain⟨e1,e2⟩:=fP (n:=1) (k:=1) h rfl;obtain⟨x,rfl⟩:=list_1 e1;obtain⟨u,rfl⟩:=list_1 e2;exact⟨rfl,fun _=>⟨_,rfl⟩⟩
 rcases i with _|i
 ·obtain⟨e1,e2⟩:=fP (n:=1) (k:=1) h rfl;obtain⟨x,rfl⟩:=list_1 e1;obtain⟨u,rfl⟩:=list_1 e2;exact⟨rfl,fun _=>⟨_,rfl⟩⟩
 rcases i with _|i
 ·obtain⟨e1,e2⟩:=fP (n:=1) (k:=0) h rfl;obtain⟨x,rfl⟩:=list_1 e1;obtain rfl:=List.length_eq_zero_iff.mp e2;exact⟨rfl,fun _=>⟨_,rfl⟩⟩
 rcases i with _|i
 ·obtain⟨e1,e2⟩:=fP (n:=1) (k:=0) h rfl;obtain⟨x,rfl⟩:=list_1 e1;obtain rfl:=List.length_eq_zero_iff.mp e2;exact⟨rfl,fun _=>⟨_,rfl⟩⟩
 rcases i with _|i
 ·obtain⟨e1,e2⟩:=fP (n:=1) (k:=0) h rfl;obtain⟨x,rfl⟩:=list_1 e1;obtain rfl:=List.length_eq_zero_iff.mp e2;exact⟨rfl,fun _=>⟨_,rfl⟩⟩
 rcases i with _|i
 ·obtain⟨e1,e2⟩:=fP (n:=3) (k:=0) h rfl;obtain⟨x,y,z,rfl⟩:=list_3 e1;obtain rfl:=List.length_eq_zero_iff.mp e2;exact⟨rfl,fun _=>⟨_,rfl⟩⟩
 rcases i with _|i
 ·obtain⟨e1,e2⟩:=fP (n:=1) (k:=0) h rfl;obtain⟨x,rfl⟩:=list_1 e1;obtain rfl:=List.length_eq_zero_iff.mp e2;exact⟨rfl,fun _=>⟨_,rfl⟩⟩
 rcases i with _|i
 ·obtain⟨e1,e2⟩:=fP (n:=1) (k:=0) h rfl;obtain⟨x,rfl⟩:=list_1 e1;obtain rfl:=List.length_eq_zero_iff.mp e2;exact⟨rfl,fun _=>⟨_,rfl⟩⟩
 rcases i with _|i
 ·obtain⟨e1,e2⟩:=fP (n:=1) (k:=0) h rfl;obtain⟨x,rfl⟩:=list_1 e1;obtain rfl:=List.length_eq_zero_iff.mp e2;exact⟨rfl,fun _=>⟨_,rfl⟩⟩
 rcases i with _|i
 ·obtain⟨e1,e2⟩:=fP (n:=1) (k:=0) h rfl;obtain⟨x,rfl⟩:=list_1 e1;obtain rfl:=List.length_eq_zero_iff.mp e2;exact⟨rfl,fun _=>⟨_,rfl⟩⟩
 rcases i with _|i
 ·obtain⟨e1,e2⟩:=fP (n:=1) (k:=0) h rfl;obtain⟨x,rfl⟩:=list_1 e1;obtain rfl:=List.length_eq_zero_iff.mp e2;exact⟨rfl,fun _=>⟨_,rfl⟩⟩
 rcases i with _|i
 ·obtain⟨e1,e2⟩:=fP (n:=0) (k:=0) h rfl;obtain rfl:=List.length_eq_zero_iff.mp e1;obtain rfl:=List.length_eq_zero_iff.mp e2;exact⟨rfl,fun _=>⟨_,rfl⟩⟩
 rcases i with _|i
 ·obtain⟨e1,e2⟩:=fP (n:=0) (k:=0) h rfl;obtain rfl:=List.length_eq_zero_iff.mp e1;obtain rfl:=List.length_eq_zero_iff.mp e2;exact⟨rfl,fun _=>⟨_,rfl⟩⟩
 rcases i with _|i
 ·obtain⟨e1,e2⟩:=fP (n:=1) (k:=0) h rfl;obtain⟨x,rfl⟩:=list_1 e1;obtain rfl:=List.length_eq_zero_iff.mp e2;exact⟨rfl,fun _=>⟨_,rfl⟩⟩
 rcases i with _|i
 ·obtain⟨e1,e2⟩:=fP (n:=1) (k:=0) h rfl;obtain⟨x,rfl⟩:=list_1 e1;obtain rfl:=List.length_eq_zero_iff.mp e2;exact⟨rfl,fun _=>⟨_,rfl⟩⟩
 omega
theorem Rq{p:Int}{r t:List Int}{c:List (List Int)}(h:PyFlat.call PyVbbhaj.shape (p::r)=some (c,t)):PyVbbhaj.whole c=c∧(VbbhajNeutral.asked1 c=true→∃k,VbbhajNeutral.callOf c=some k):=by
 obtain⟨n,k,xs,h1,h2,h3,rfl⟩:=JH h
 refine Y9 ?_
 rw[h1,KQ h3,List.length_take,Nat.min_eq_left h2]
theorem Hm:∀{f:Nat} {l:List Int} {cs:List (List (List Int))},PyFlat.calls PyVbbhaj.shape f l=some cs→cs.map PyVbbhaj.whole=cs
 |f,[],cs,h=>by
  cases f<;>(cases h;rfl)
 |0,p::r,cs,h=>by simp[PyFlat.calls]at h
 |f+1,p::r,cs,h=>by
  unfold PyFlat.calls at h
  cases q:PyFlat.call PyVbbhaj.shape (p::r)with
  |none=>rw[q]at h;cases h
  |some x =>
   obtain⟨c,t⟩:=x
   rw[q]at h
   dsimp only at h
   cases q2:PyFlat.calls PyVbbhaj.shape f t with
   |none=>rw[q2]at h;cases h
   |some cs' =>
    rw[q2]at h
    cases h
    rw[List.map_cons,(Rq q).1,Hm q2]
theorem Zm(l:List Int):PyVbbhaj.calls l=PyFlat.calls PyVbbhaj.shape l.length l:=by
 unfold PyVbbhaj.calls
 cases q:PyFlat.calls PyVbbhaj.shape l.length l with
 |none=>rfl
 |some cs =>
  show some (cs.map PyVbbhaj.whole)=some cs
  rw[Hm q]
theorem Uc{l:List Int}(h:PyVbbhaj.answers_asked l=true):∃cs,PyFlat.calls PyVbbhaj.shape l.length l=some cs∧(∀c∈cs,VbbhajNeutral.asked1 c=true)∧cs.length≤400 ∧
  PyVbbhaj.answers l=PyFlat.told (PyFlat.played VbbhajNeutral.step VbbhajNeutral.start cs):=by
 unfold PyVbbhaj.answers_asked at h
 unfold PyVbbhaj.answers
 rw[Zm]at h ⊢
 cases q:PyFlat.calls PyVbbhaj.shape l.length l with
 |none=>rw[q]at h;cases h
 |some cs =>
  rw[q]at h
  dsimp only at h
  rw[Bool.and_eq_true]at h
  have h2:=h.2
  unfold VbbhajNeutral.asked at h2
  rw[Bool.and_eq_true,Bool.and_eq_true]at h2
  exact⟨cs,rfl,fun c hc=>List.all_eq_true.mp h2.1 c hc,by simpa using h2.2.2,rfl⟩
end Jq
end
section
set_option autoImplicit false
namespace Jq
open Vbbhaj
theorem Fl:∀{l:List Int},l.length % 3≠0→triples l=none
 |[],h=>absurd rfl h
 |[_],_=>rfl
 |[_,_],_=>rfl
 |a::b::c::r,h=>by
  have ih:=Fl (l:=r) (by simp only[List.length_cons]at h;omega)
  unfold triples
  rw[ih];rfl
def wO(l:List Int)(i:Nat):Int×Int×Int:=(l.getD (3 * i) 0,l.getD (3 * i+1) 0,l.getD (3 * i+2) 0)
theorem TQ(a b c:Int)(r:List Int)(i:Nat):wO (a::b::c::r) (i+1)=wO r i:=by
 unfold wO
 have e1:3 * (i+1)=3 * i+1+1+1:=by omega
 have e2:3 * (i+1)+1=3 * i+1+1+1+1:=by omega
 have e3:3 * (i+1)+2=3 * i+2+1+1+1:=by omega
 rw[e2,e3,e1]
 simp only[List.getD_cons_succ]
theorem Fo:∀{l:List Int},l.length % 3=0→triples l=some ((List.range (l.length / 3)).map (wO l))
 |[],_=>rfl
 |[_],h=>by simp at h
 |[_,_],h=>by simp at h
 |a::b::c::r,h=>by
  have ih:=Fo (l:=r) (by simp only[List.length_cons]at h;omega)
  unfold triples
  rw[ih]
  have e:(a::b::c::r).length / 3=r.length / 3+1:=by simp only[List.length_cons];omega
  rw[e,List.range_succ_eq_map,List.map_cons,List.map_map]
  have e2:(List.range (r.length / 3)).map (wO (a::b::c::r)∘Nat.succ)=(List.range (r.length / 3)).map (wO r):=List.map_congr_left fun i _=>TQ a b c r i
  rw[e2]
  rfl
end Jq
end
section
set_option autoImplicit false
namespace Jq
open Vbbhaj
theorem O9{b:Job→Job→Bool}:∀{l:List Job} {m:Job},m∈l→(∀x∈l,x=m∨(b m x=true∧b x m=false))→best b l=some m
 |[],m,h,_=>by cases h
 |j::r,m,h,hb=>by
  unfold best
  rcases List.mem_cons.mp h with e|e
  ·subst e
   cases q:best b r with
   |none=>rfl
   |some k =>
    have hk:=D_ q
    rcases hb k (List.mem_cons_of_mem _ hk)with e|e
    ·subst e
     by_cases z:b k k=true
     ·simp only[z,if_true]
     ·simp only[z]
      rfl
    ·simp only[e.1,if_true]
  ·have q:best b r=some m:=O9 e fun x hx=>hb x (List.mem_cons_of_mem _ hx)
   rw[q]
   rcases hb j List.mem_cons_self with z|z
   ·subst z
    by_cases z:b j j=true
    ·simp only[z,if_true]
    ·simp only[z]
     rfl
   ·simp only[z.2]
    rfl
def ix(cs:List Nat)(c:Nat):Nat:=cs.findIdx fun x=>x==c
theorem adY{cs:List Nat}{c:Nat}(h:c∈cs):ix cs c<cs.length:=List.findIdx_lt_length_of_exists ⟨c,h,by simp⟩
def kLt(s:State)(cs:List Nat)(a b:Job):Bool :=
 decide (ix cs a.cls<ix cs b.cls)||(decide (ix cs a.cls=ix cs b.cls)&&higher s a b)
theorem U6{cs:List Nat}{p:Nat→Bool}{c:Nat}(hc:c∈cs)(hp:p c=true)(hm:∀d∈cs,p d=true→ix cs c≤ix cs d):cs.find? p=some c:=by
 cases q:cs.find? p with
 |none =>
  have:=List.find?_eq_none.mp q c hc
  exact absurd hp this
 |some d =>
  obtain⟨hpd,as,bs,e,hno⟩:=List.find?_eq_some_iff_append.mp q
  have hd:d∈cs:=by rw[e];simp
  have h1:=hm d hd hpd
  by_cases ed:d=c
  ·rw[ed]
  ·exfalso
   have hca:c∉as:=fun m=>by
    have:=hno c m
    rw[hp]at this
    simp at this
   have hda:d∉as:=fun m=>by
    have:=hno d m
    rw[hpd]at this
    simp at this
   have e1:ix cs d=as.length:=by
    unfold ix
    rw[e,List.findIdx_append,if_neg,List.findIdx_cons]
    ·simp
    ·intro hlt
     obtain⟨x,hx,hxe⟩:=List.findIdx_lt_length.mp hlt
     have:x=d:=by simpa using hxe
     exact hda (this▸hx)
   have e2:as.length<ix cs c:=by
    unfold ix
    rw[e,List.findIdx_append,if_neg,List.findIdx_cons]
    ·have:(d==c)=false:=by simpa using ed
     rw[this]
     simp
    ·intro hlt
     obtain⟨x,hx,hxe⟩:=List.findIdx_lt_length.mp hlt
     have:x=c:=by simpa using hxe
     exact hca (this▸hx)
   omega
theorem RN{s:State}{x:Init}{j:Job}(h:free s x j=true):j.cls∈x.classes:=by
 unfold free at h
 simp only[Bool.and_eq_true]at h
 simpa using h.2.1
theorem UL{s:State}(g:Good s){x:Init}{m:Job}(hm:m∈s.jobs)(hf:free s x m=true)(hd:m.due≠0)
  (hl:∀k∈s.jobs,free s x k=true→k.due≠0→m.due≤k.due):chosen s x=some m:=by
 unfold chosen
 have q:best sooner ((s.jobs.filter (free s x)).filter fun j=>decide (0<j.due))=some m:=by
  refine O9 (List.mem_filter.mpr ⟨List.mem_filter.mpr ⟨hm,hf⟩,decide_eq_true (by omega)⟩) fun k hk=>?_
  obtain⟨hk1,hk2⟩:=List.mem_filter.mp hk
  obtain⟨hk1,hk3⟩:=List.mem_filter.mp hk1
  have hk2:=of_decide_eq_true hk2
  have h1:=hl k hk1 hk3 (by omega)
  by_cases e:m.due=k.due
  ·left
   exact g.srt.inj hk1 hm (g.inj m hm k hk1 (by omega) e).symm
  ·right
   unfold sooner
   exact⟨decide_eq_true (by omega),decide_eq_false (by omega)⟩
 simp only[q]
theorem adh{s:State}{x:Init}(h:∀k∈s.jobs,free s x k=true→k.due=0):best sooner ((s.jobs.filter (free s x)).filter fun j=>decide (0<j.due))=none:=by
 have e:((s.jobs.filter (free s x)).filter fun j=>decide (0<j.due))=[]:=by
  rw[List.filter_eq_nil_iff]
  intro k hk
  obtain⟨h1,h2⟩:=List.mem_filter.mp hk
  rw[h k h1 h2]
  simp
 rw[e]
 rfl
theorem Ru{s:State}{x:Init}(h:∀k∈s.jobs,free s x k=false):chosen s x=none:=by
 unfold chosen
 have e:s.jobs.filter (free s x)=[]:=by
  rw[List.filter_eq_nil_iff]
  intro k hk
  rw[h k hk]
  simp
 rw[e]
 simp[best]
theorem yf{s:State}{a b:Job}(h:higher s a b=false)(h':higher s b a=false):a.num=b.num:=by
 unfold higher at h h'
 simp at h h'
 omega
theorem UT{s:State}(g:Good s){x:Init}{m:Job}(hm:m∈s.jobs)(hf:free s x m=true)(h0:∀k∈s.jobs,free s x k=true→k.due=0)
  (hl:∀k∈s.jobs,free s x k=true→kLt s x.classes k m=false):chosen s x=some m:=by
 unfold chosen
 simp only[adh h0]
 have hmf:m∈s.jobs.filter (free s x):=List.mem_filter.mpr ⟨hm,hf⟩
 have q:(x.classes.find? fun c=>(s.jobs.filter (free s x)).any fun j=>j.cls==c)=some m.cls:=by
  refine U6 (RN hf) (List.any_eq_true.mpr ⟨m,hmf,by simp⟩) fun d hd hp=>?_
  obtain⟨k,hk,ek⟩:=List.any_eq_true.mp hp
  obtain⟨hk1,hk2⟩:=List.mem_filter.mp hk
  have ek:k.cls=d:=by simpa using ek
  have:=hl k hk1 hk2
  unfold kLt at this
  simp at this
  rw[← ek]
  omega
 rw[q]
 show best (higher s) ((s.jobs.filter (free s x)).filter fun j=>j.cls==m.cls)=some m
 refine O9 (List.mem_filter.mpr ⟨hmf,by simp⟩) fun k hk=>?_
 obtain⟨hk1,hk2⟩:=List.mem_filter.mp hk
 obtain⟨hk1,hk3⟩:=List.mem_filter.mp hk1
 have ek:k.cls=m.cls:=by simpa using hk2
 have h1:=hl k hk1 hk3
 unfold kLt at h1
 rw[ek]at h1
 have h2:higher s k m=false:=by simpa using h1
 by_cases e:k=m
 ·exact .inl e
 ·right
  refine⟨?_,h2⟩
  cases h3:higher s m k with
  |true=>rfl
  |false=>exact absurd (g.srt.inj hk1 hm (yf h2 h3)) e
theorem vV(b:Job→Job→Bool)(j:Job):∀l:List Job,(insertBy b j l).Perm (j::l)
 |[]=>List.Perm.refl _
 |k::l=>by
  unfold insertBy
  split
  ·exact List.Perm.refl _
  ·exact((vV b j l).cons k).trans (List.Perm.swap ..)
theorem yL{b:Job→Job→Bool}{j:Job}:∀{l:List Job},l.Pairwise (fun x y=>b x y=true)→(∀x∈l,b j x=true∨b x j=true)→(∀x∈l,∀y∈l,b j x=true→b x y=true→b j y=true) →
  (insertBy b j l).Pairwise (fun x y=>b x y=true)
 |[],_,_,_=>List.pairwise_singleton ..
 |k::l,h,ht,htr=>by
  obtain⟨h1,h2⟩:=List.pairwise_cons.mp h
  unfold insertBy
  split
  ·rename_i e
   refine List.pairwise_cons.mpr ⟨fun y hy=>?_,h⟩
   rcases List.mem_cons.mp hy with rfl|hy
   ·exact e
   ·exact htr k List.mem_cons_self y (List.mem_cons_of_mem _ hy) e (h1 y hy)
  ·rename_i e
   refine List.pairwise_cons.mpr ⟨fun y hy=>?_,yL h2 (fun x hx=>ht x (List.mem_cons_of_mem _ hx)) fun x hx y hy=>htr x (List.mem_cons_of_mem _ hx) y (List.mem_cons_of_mem _ hy)⟩
   rcases List.mem_cons.mp ((vV b j l).mem_iff.mp hy)with rfl|hy
   ·exact(ht k List.mem_cons_self).resolve_left e
   ·exact h1 y hy
structure Ord(b:Job→Job→Bool)(l:List Job):Prop where
 tot:∀x∈l,∀y∈l,x.num≠y.num→b x y=true∨b y x=true
 trans:∀x∈l,∀y∈l,∀z∈l,b x y=true→b y z=true→b x z=true
 acI:∀x∈l,∀y∈l,b x y=true→b y x=false
theorem qR(b:Job→Job→Bool):∀l:List Job,(l.foldr (insertBy b) []).Perm l
 |[]=>List.Perm.refl _
 |j::l=>(vV b j _).trans ((qR b l).cons j)
theorem Em{b:Job→Job→Bool}:∀{l:List Job},Ord b l→cV l→(l.foldr (insertBy b) []).Pairwise (fun x y=>b x y=true)
 |[],_,_=>List.Pairwise.nil
 |j::l,o,hs=>by
  obtain⟨s1,s2⟩:=List.pairwise_cons.mp hs
  have o':Ord b l:=⟨fun x hx y hy=>o.tot x (List.mem_cons_of_mem _ hx) y (List.mem_cons_of_mem _ hy),fun x hx y hy z hz=>o.trans x (List.mem_cons_of_mem _ hx) y (List.mem_cons_of_mem _ hy) z (List.mem_cons_of_mem _ hz),fun x hx y hy=>o.acI x (List.mem_cons_of_mem _ hx) y (List.mem_cons_of_mem _ hy)⟩
  refine yL (Em o' s2) (fun x hx=>?_) fun x hx y hy=>?_
  ·have hx:=(qR b l).mem_iff.mp hx
   exact o.tot j List.mem_cons_self x (List.mem_cons_of_mem _ hx) (by have:=s1 x hx;omega)
  ·have hx:=(qR b l).mem_iff.mp hx
   have hy:=(qR b l).mem_iff.mp hy
   exact o.trans j List.mem_cons_self x (List.mem_cons_of_mem _ hx) y (List.mem_cons_of_mem _ hy)
theorem W7{b:Job→Job→Bool}:∀{l₁ l₂:List Job},l₁.Perm l₂→(∀x∈l₁,∀y∈l₁,b x y=true→b y x=false)→l₁.Pairwise (fun x y=>b x y=true)→l₂.Pairwise (fun x y=>b x y=true)→l₁=l₂
 |[],l₂,p,_,_,_=>by rw[List.nil_perm.mp p]
 |a::r,l₂,p,ha,h1,h2=>by
  cases l₂ with
  |nil=>exact absurd p.length_eq (by simp)
  |cons c q =>
   obtain⟨a1,a2⟩:=List.pairwise_cons.mp h1
   obtain⟨c1,c2⟩:=List.pairwise_cons.mp h2
   have e:a=c:=by
    have m1:a∈c::q:=p.mem_iff.mp List.mem_cons_self
    have m2:c∈a::r:=p.mem_iff.mpr List.mem_cons_self
    rcases List.mem_cons.mp m1 with e|m1
    ·exact e
    ·rcases List.mem_cons.mp m2 with e | m2
     ·exact e.symm
     ·have x1:=a1 c m2
      have x2:=c1 a m1
      rw[ha a List.mem_cons_self c (List.mem_cons_of_mem _ m2) x1]at x2
      cases x2
   subst e
   rw[W7 (List.Perm.cons_inv p) (fun x hx y hy=>ha x (List.mem_cons_of_mem _ hx) y (List.mem_cons_of_mem _ hy)) a2 c2]
theorem aar{s:State}(g:Good s){l:List Job}(h:∀x∈l,x∈s.jobs):Ord (goesBefore s) l where
 tot:=fun x hx y hy ne=>by
  have i1:=g.inj x (h x hx) y (h y hy)
  have hh:=@yf s x y
  unfold goesBefore
  by_cases a:0<x.due<;>by_cases c:0<y.due
  ·simp only[a,c,if_true]
   by_cases e:x.due=y.due
   ·exact absurd (i1 a e) ne
   ·simp only[Bool.or_eq_true,decide_eq_true_eq];omega
  ·simp only[a,c,if_true];left;simp;omega
  ·simp only[a,c,if_true];right;simp;omega
  ·simp only[a,c]
   have e1:x.due=0:=by omega
   have e2:y.due=0:=by omega
   simp only[e1,e2]
   cases h1:higher s x y with
   |true=>simp
   |false =>
    cases h2:higher s y x with
    |true=>simp
    |false=>exact absurd (hh h1 h2) ne
 trans:=fun x hx y hy z hz=>by
  unfold goesBefore higher
  by_cases a:0<x.due<;>by_cases c:0<y.due<;>by_cases d:0<z.due<;>simp[a,c,d]<;>omega
 acI:=fun x hx y hy=>by
  unfold goesBefore higher
  by_cases a:0<x.due<;>by_cases c:0<y.due<;>simp[a,c]<;>omega
theorem Vb{s:State}(g:Good s){c:Nat}{D O:List Job}(hD:D.Perm ((s.jobs.filter fun j=>ready j&&j.cls==c).filter fun j=>decide (j.due≠0)))
  (hO:O.Perm ((s.jobs.filter fun j=>ready j&&j.cls==c).filter fun j=>!decide (j.due≠0))) (sD:D.Pairwise fun x y=>x.due≤y.due) (sO:O.Pairwise fun x y=>higher s y x=false):D++O=inOrder s c:=by
 have hl:∀x∈(s.jobs.filter fun j=>ready j&&j.cls==c),x∈s.jobs:=fun x hx=>(List.mem_filter.mp hx).1
 have hs:cV (s.jobs.filter fun j=>ready j&&j.cls==c):=List.Pairwise.sublist List.filter_sublist g.srt
 have ord:=aar g hl
 have pm:(D++O).Perm (s.jobs.filter fun j=>ready j&&j.cls==c):=by
  refine(hD.append hO).trans ?_
  exact List.filter_append_perm _ _
 have mD:∀x∈D,x∈s.jobs∧x.due≠0:=fun x hx=>by
  obtain⟨h1,h2⟩:=List.mem_filter.mp (hD.mem_iff.mp hx)
  exact⟨hl x h1,of_decide_eq_true h2⟩
 have mO:∀x∈O,x∈s.jobs∧x.due=0:=fun x hx=>by
  obtain⟨h1,h2⟩:=List.mem_filter.mp (hO.mem_iff.mp hx)
  exact⟨hl x h1,by simpa using h2⟩
 have nd:∀{l:List Job},(D++O).Nodup:=by
  intro _
  refine pm.nodup_iff.mpr ?_
  exact hs.imp fun h e=>by rw[e]at h;exact absurd h (Nat.lt_irrefl _)
 have ndD:=(List.nodup_append.mp (nd (l:=[]))).1
 have ndO:=(List.nodup_append.mp (nd (l:=[]))).2.1
 refine W7 (b:=goesBefore s) (pm.trans (qR _ _).symm) (fun x hx y hy=>ord.acI x (pm.mem_iff.mp hx) y (pm.mem_iff.mp hy)) ?_ (Em ord hs)
 refine List.pairwise_append.mpr ⟨?_,?_,fun x hx y hy=>?_⟩
 ·refine(sD.and ndD).imp_of_mem ?_
  intro x y hx hy ⟨h1,h2⟩
  obtain⟨x1,x2⟩:=mD x hx
  obtain⟨y1,y2⟩:=mD y hy
  have h3:x.due≠y.due:=fun e=>h2 (g.srt.inj x1 y1 (g.inj x x1 y y1 (by omega) e))
  unfold goesBefore
  rw[if_pos (by omega)]
  simp only[Bool.or_eq_true,decide_eq_true_eq]
  right;omega
 ·refine(sO.and ndO).imp_of_mem ?_
  intro x y hx hy ⟨h1,h2⟩
  obtain⟨x1,x2⟩:=mO x hx
  obtain⟨y1,y2⟩:=mO y hy
  have h3:higher s x y=true:=by
   cases q:higher s x y with
   |true=>rfl
   |false=>exact absurd (g.srt.inj x1 y1 (yf q h1)) h2
  unfold goesBefore
  rw[if_neg (by omega),y2,h3]
  rfl
 ·obtain⟨x1,x2⟩:=mD x hx
  obtain⟨y1,y2⟩:=mO y hy
  unfold goesBefore
  rw[if_pos (by omega),y2]
  rfl
end Jq
end
section
set_option autoImplicit false
set_option linter.all false
namespace Jq
open Vbbhaj
def po1(k:Nat)(j:Job)(st:Nat):Job:={j with passed:=j.passed+1,due:=if j.due=0∧k≤j.passed+1 then st else j.due}
def poS(k:Nat)(j:Job)(st:Nat):Nat:=if j.due=0∧k≤j.passed+1 then st+1 else st
def poF(k:Nat):List Job→Nat→List Job→Nat×List Job
 |[],st,l=>(st,l)
 |j::r,st,l=>poF k r (poS k j st) (setJob l (po1 k j st))
theorem I_(k:Nat)(j:Job)(st:Nat):(po1 k j st).num=j.num:=rfl
theorem SQ(k:Nat):∀(r:List Job) (j:Job) (st:Nat) (l:List Job),poF k (r++[j]) st l=(poS k j (poF k r st l).1,setJob (poF k r st l).2 (po1 k j (poF k r st l).1))
 |[],j,st,l=>rfl
 |i::r,j,st,l=>SQ k r j _ _
theorem Lb{x j:Job}{l:List Job}(h:x.num≠j.num):setJob (x::l) j=x::setJob l j:=by
 unfold setJob
 rw[List.map_cons,if_neg h]
theorem KC(k:Nat){x:Job}:∀(r:List Job) (st:Nat) (l:List Job),(∀j∈r,x.num≠j.num)→poF k r st (x::l)=((poF k r st l).1,x::(poF k r st l).2)
 |[],st,l,_=>rfl
 |j::r,st,l,h=>by
  unfold poF
  rw[Lb (by rw[I_];exact h j List.mem_cons_self)]
  exact KC k r _ _ fun i hi=>h i (List.mem_cons_of_mem _ hi)
theorem z_(s:State)(x:Init)(p:Nat):∀(l:List Job) (st:Nat),cV l→passOver s x p st l=poF s.passes (l.filter fun j=>decide (j.num≠p)&&free s x j) st l
 |[],st,_=>rfl
 |j::r,st,h=>by
  obtain⟨h1,h2⟩:=List.pairwise_cons.mp h
  have nr:∀i∈(r.filter fun j=>decide (j.num≠p)&&free s x j),j.num≠i.num:=fun i hi=>by
   have:=h1 i (List.mem_filter.mp hi).1
   omega
  by_cases c:j.num≠p∧free s x j=true
  ·rw[List.filter_cons_of_pos (by simp only[Bool.and_eq_true,decide_eq_true_eq];exact c)]
   unfold passOver
   rw[if_pos c]
   show(_,_)=poF s.passes _ (poS s.passes j st) (setJob (j::r) (po1 s.passes j st))
   have e:setJob (j::r) (po1 s.passes j st)=po1 s.passes j st::r:=by
    unfold setJob
    rw[List.map_cons,if_pos (I_ _ _ _).symm]
    congr 1
    have:r.map (fun x=>if x.num=(po1 s.passes j st).num then po1 s.passes j st else x)=r.map id:=List.map_congr_left fun y hy=>if_neg (by have:=h1 y hy;rw[I_];omega)
    rw[this,List.map_id]
   rw[e,KC _ _ _ _ (by rw[I_];exact nr),← z_ s x p r _ h2]
   rfl
  ·rw[List.filter_cons_of_neg (by simp only[Bool.and_eq_true,decide_eq_true_eq];exact c)]
   unfold passOver
   rw[if_neg c,KC _ _ _ _ nr,← z_ s x p r _ h2]
end Jq
end
section
set_option autoImplicit false
set_option linter.all false
namespace Jq
open Vbbhaj
theorem Zr:∀(n:Nat) (l:List Int),l.length=n→l.eraseDups.length≤l.length∧(l.eraseDups.length=l.length↔l.Nodup):=by
 intro n
 induction n using Nat.strongRecOn with
 |ind n ih =>
  intro l hl
  cases l with
  |nil=>simp
  |cons a r =>
   rw[List.eraseDups_cons,List.length_cons,List.length_cons,List.nodup_cons]
   have h1:=List.length_filter_le (fun b=>!b==a) r
   obtain⟨h2,h3⟩:=ih (r.filter fun b=>!b==a).length (by rw[List.length_cons]at hl;omega) _ rfl
   refine⟨by omega,⟨fun e=>?_,fun⟨e1,e2⟩=>?_⟩⟩
   ·have e4:(r.filter fun b=>!b==a).length=r.length:=by omega
    have e5:(r.filter fun b=>!b==a)=r:=List.filter_eq_self.mpr (List.length_filter_eq_length_iff.mp e4)
    refine⟨fun m=>?_,?_⟩
    ·have:=List.filter_eq_self.mp e5 a m
     simp at this
    ·have:=h3.mp (by omega)
     rw[e5]at this
     exact this
   ·have e5:(r.filter fun b=>!b==a)=r:=List.filter_eq_self.mpr fun x hx=>by
     simp
     intro q
     exact e1 (q▸hx)
    rw[e5]at h3 ⊢
    have:=h3.mpr e2
    omega
theorem vR(l:List Int):areClasses l=(decide (1≤l.length∧l.length≤8)&&(l.all isClass&&decide l.Nodup)):=by
 unfold areClasses
 congr 2
 rw[Bool.eq_iff_iff]
 simp only[beq_iff_eq,decide_eq_true_eq]
 exact(Zr _ l rfl).2
end Jq
end
section
set_option Elab.async false
set_option linter.all false
set_option maxRecDepth 100000
namespace L2
open PySem PySem.Spec PyProof.Rows
theorem Yi(x:Str)(t:Tok):J8 (.inr x) (.str x t)=true:=by simp[J8,Value.isStrOf]
theorem R_(prog:Program)(w:World)(x:Str)(t:Tok):(e_ prog w).is (.inr x) (.str x t)=true:=Yi x t
end L2
namespace L2
open PySem PySem.Spec PyProof.Rows
theorem Vals.length{xs:List V}{us:List Value}(r:Vals xs us):xs.length=us.length:=Paired.length r
theorem Vals.get:∀{xs:List V} {us:List Value} {i:Nat} {x:V},Vals xs us→xs[i]?=some x→∃u,us[i]?=some u∧RelV x u
 |_,_,_,_,.nil,e=>by simp at e
 |_,_,0,_,.cons r _,e=>by simp at e;subst e;exact⟨_,rfl,r⟩
 |_,_,i+1,x,.cons _ t,e=>by
  obtain⟨u,h1,h2⟩:=Vals.get (i:=i) (x:=x) t (by simpa using e)
  exact⟨u,by simpa using h1,h2⟩
theorem Vals.append:∀{xs ys:List V} {us ws:List Value},Vals xs us→Vals ys ws→Vals (xs++ys) (us++ws)
 |_,_,_,_,.nil,s=>s
 |_,_,_,_,.cons r t,s=>.cons r (Vals.append t s)
theorem Vals.take:∀{xs:List V} {us:List Value} (n:Nat),Vals xs us→Vals (xs.take n) (us.take n)
 |_,_,0,_=>.nil
 |_,_,_+1,.nil=>.nil
 |_,_,n+1,.cons r t=>.cons r (Vals.take n t)
theorem Vals.drop:∀{xs:List V} {us:List Value} (n:Nat),Vals xs us→Vals (xs.drop n) (us.drop n)
 |_,_,0,r=>r
 |_,_,_+1,.nil=>.nil
 |_,_,n+1,.cons _ t=>Vals.drop n t
def yS:Option V→Option Value→Prop
 |some v,some u=>RelV v u
 |none,none=>True
 |_,_=>False
def KV{κ:Type}:List (κ×V)→List (κ×Value)→Prop:=Paired fun(p:κ×V) (q:κ×Value)=>p.1=q.1∧RelV p.2 q.2
def kV:Key→V
 |.inl i=>.int i
 |.inr x=>.str x
def upd(H:Hp)(a:Addr)(o:HO):Hp:=fun b=>if b=a then some o else H b
theorem aX{H:Hp}{a:Addr}{o:HO}:upd H a o a=some o:=by unfold upd;rw[if_pos rfl]
theorem aO{H:Hp}{a b:Addr}{o:HO}(h:b≠a):upd H a o b=H b:=by unfold upd;rw[if_neg h]
theorem cB{H:Hp}{a b:Addr}{o u:HO}(h:H a=some o)(h':H b=some u)(d:o≠u):a≠b:=by
 intro e;subst e;rw[h]at h';exact d (Option.some.inj h')
theorem bj{H:Hp}{a b:Addr}{o:HO}(h:H a=some o)(h':H b=none):a≠b:=by
 intro e;subst e;rw[h]at h';cases h'
section
variable (P:Program)(w:World)
def ie(H:Hp)(h:Heap)(a:Addr):HO→Prop
 |.lst xs=>xs.length≤sizeLine∧∃(its:List Value) (n:Nat),Vals xs its∧h.get? a=some {cls:=.type "list",data:=.seq its.toArray n}
 |.tup xs=>xs.length≤sizeLine∧∃its:List Value,Vals xs its∧IsTup h a its.toArray
 |.dK kvs=>kvs.length≤sizeLine∧(a==sysModules)=false∧∃vs,KV kvs vs∧h.DictOf (e_ P w) a vs
 |.dT kvs=>kvs.length≤sizeLine∧(a==sysModules)=false∧∃xs:List (List Key×Addr×Value),
   Paired (fun(p:List Key×V) (q:List Key×Addr×Value)=>p.1=q.1∧H q.2.1=some (.tup (p.1.map kV))∧RelV p.2 q.2.2) kvs xs ∧
   ∃o es ep,h.get? a=some o∧o.ExactDict∧o.data=.dict es ep∧es.toList=xs.map (entryOfKey (tupleKind (e_ P w)))∧(xs.map (·.1)).Nodup
 |.set S n=>h.SetOf (intKind P w) a S n
 |.ins C dx fs=>H dx=some (.own a)∧fs.length≤1000∧dx≠a∧h.get? a=some (PySem.W.instObj C dx) ∧
   ∃mA,h.Ns1 dx mA∧(∀f,yS (fs.lookup f) (mA f))∧PySem.Within mA (fs.map (·.1))
 |.own _=>∃o,h.get? a=some o
 |.xd fs=>∃mA,h.Ns1 a mA∧∀f,yS (fs.lookup f) (mA f)
 |.rng lo hi=>∃t u v,h.get? a=some {cls:=.type "range",data:=.fields #[.int lo t,.int hi u,.int 1 v]}
 |.frz o u=>h.get? a=some o∧ie H h a u
 |.tbl ps=>h.get? a=some {cls:=.none,data:=.fields ps}
 |.met f x=>h.get? a=some (PySem.W.methodObj (.ref f) (.ref x))
 |.ext φ=>φ h∧(∃o,h.get? a=some o)∧∀h1 h2:Heap,φ h1→(∀o,h1.get? a=some o→h2.get? a=some o)→φ h2
def HOk(H:Hp)(h:Heap):Prop:=∀a o,H a=some o→ie P w H h a o
end
section
variable {P:Program}{w:World}{H H':Hp}{h h':Heap}{a:Addr}{o:HO}
theorem ie.lt(x:ie P w H h a o):a<h.objs.size:=by
 cases o with
 |lst xs=>obtain⟨_,_,_,_,e⟩:=x;exact Heap.lt_size e
 |tup xs=>obtain⟨_,_,_,p⟩:=x;exact p.lt
 |dK kvs=>obtain⟨_,_,_,_,o,_,_,e,_⟩:=x;exact Heap.lt_size e
 |dT kvs=>obtain⟨_,_,_,_,o,_,_,e,_⟩:=x;exact Heap.lt_size e
 |set S n=>obtain⟨o,_,_,_,e,_⟩:=x;exact Heap.lt_size e
 |ins C dx fs=>obtain⟨_,_,_,e,_⟩:=x;exact Heap.lt_size e
 |own y=>obtain⟨_,e⟩:=x;exact Heap.lt_size e
 |xd fs=>obtain⟨_,⟨_,_,_,e,_⟩,_⟩:=x;exact Heap.lt_size e
 |rng lo hi=>obtain⟨_,_,_,e⟩:=x;exact Heap.lt_size e
 |frz ob u=>obtain⟨e,_⟩:=x;exact Heap.lt_size e
 |tbl ps=>exact Heap.lt_size (show h.get? a=some _ from x)
 |met f y=>exact Heap.lt_size (show h.get? a=some _ from x)
 |ext φ=>obtain⟨_,⟨_,e⟩,_⟩:=x;exact Heap.lt_size e
theorem Paired.adf{α β:Type}{F G:α→β→Prop}:∀{l₁:List α} {l₂:List β},Paired F l₁ l₂→(∀a b,F a b→G a b)→Paired G l₁ l₂
 |_,_,.nil,_=>.nil
 |_,_,.cons r t,f=>.cons (f _ _ r) (Paired.adf t f)
theorem ie.stay(x:ie P w H h a o)(k:∀b u,(b=a∨H b=some (.own a))→h.get? b=some u→h'.get? b=some u)
  (ho:∀b,H b=some (.own a)→H' b=some (.own a)) (ht:∀b xs,H b=some (.tup xs)→H' b=some (.tup xs)):ie P w H' h' a o:=by
 induction o with
 |lst xs=>obtain⟨z,its,n,r,e⟩:=x;exact⟨z,its,n,r,k _ _ (.inl rfl) e⟩
 |tup xs=>obtain⟨z,its,r,ob,e,c⟩:=x;exact⟨z,its,r,ob,k _ _ (.inl rfl) e,c⟩
 |dK kvs=>obtain⟨z,y,vs,r,ob,es,ep,e,c⟩:=x;exact⟨z,y,vs,r,ob,es,ep,k _ _ (.inl rfl) e,c⟩
 |dT kvs =>
  obtain⟨z,y,xs,r,ob,es,ep,e,c⟩:=x
  exact⟨z,y,xs,Paired.adf r fun p q z=>⟨z.1,ht _ _ z.2.1,z.2.2⟩,ob,es,ep,k _ _ (.inl rfl) e,c⟩
 |set S n=>obtain⟨ob,es,ep,t,e,c⟩:=x;exact⟨ob,es,ep,t,k _ _ (.inl rfl) e,c⟩
 |ins C dx fs =>
  obtain⟨d,z,ne,e,mA,⟨od,es,ep,e2,c⟩,r⟩:=x
  exact⟨ho _ d,z,ne,k _ _ (.inl rfl) e,mA,⟨od,es,ep,k _ _ (.inr d) e2,c⟩,r⟩
 |own y=>obtain⟨ob,e⟩:=x;exact⟨ob,k _ _ (.inl rfl) e⟩
 |xd fs=>obtain⟨mA,⟨od,es,ep,e,c⟩,r⟩:=x;exact⟨mA,⟨od,es,ep,k _ _ (.inl rfl) e,c⟩,r⟩
 |rng lo hi=>obtain⟨t,u,v,e⟩:=x;exact⟨t,u,v,k _ _ (.inl rfl) e⟩
 |frz ob u ih=>obtain⟨e,q⟩:=x;exact⟨k _ _ (.inl rfl) e,ih q⟩
 |tbl ps =>
  have e:h.get? a=some {cls:=.none,data:=.fields ps}:=x
  show h'.get? a=some {cls:=.none,data:=.fields ps}
  exact k a _ (.inl rfl) e
 |met f y =>
  have e:h.get? a=some (PySem.W.methodObj (.ref f) (.ref y)):=x
  show h'.get? a=some (PySem.W.methodObj (.ref f) (.ref y))
  exact k a _ (.inl rfl) e
 |ext φ=>obtain⟨p,⟨o,e⟩,st⟩:=x;exact⟨st _ _ p fun o q=>k _ _ (.inl rfl) q,⟨o,k _ _ (.inl rfl) e⟩,st⟩
theorem HOk.lt(x:HOk P w H h)(e:H a=some o):a<h.objs.size:=(x a o e).lt
theorem HOk.fresh(x:HOk P w H h)(e:h.objs.size≤a):H a=none:=by
 cases q:H a with
 |none=>rfl
 |some u=>exact absurd (Nat.lt_of_lt_of_le (x.lt q) e) (Nat.lt_irrefl _)
theorem HOk.kept(x:HOk P w H h)(k:∀b u,h.get? b=some u→h'.get? b=some u):HOk P w H h':=fun a o e =>
 (x a o e).stay (fun b u _ q=>k b u q) (fun _ q=>q) fun _ _ q=>q
theorem HOk.laid(x:HOk P w H h)(k:∀b u,h.get? b=some u→h'.get? b=some u)(hp:h.objs.size≤a)(new:ie P w (upd H a o) h' a o):HOk P w (upd H a o) h':=fun b u e=>by
 have hn:=x.fresh hp
 by_cases hb:b=a
 ·subst hb;rw[aX]at e;cases e;exact new
 ·rw[aO hb]at e
  exact(x b u e).stay (fun c v _ q=>k c v q) (fun c q=>by rw[aO (bj q hn)];exact q) fun c xs q=>by rw[aO (bj q hn)];exact q
end
theorem Rd.ok{P:Program}{w:World}{H:Hp}{h:Heap}{a:Addr}{u:HO}(r:Rd H a u)(x:HOk P w H h):ie P w H h a u:=by
 rcases r with r|⟨o,r⟩
 ·exact x a u r
 ·obtain⟨_,q⟩:=x a _ r
  exact q
def Mut:Option HO→Prop
 |some (.lst _)=>True
 |some (.dK _)=>True
 |some (.dT _)=>True
 |some (.set _ _)=>True
 |some (.ins _ _ _)=>True
 |some (.ext _)=>True
 |_=>False
section
variable {P:Program}{w:World}{H:Hp}{h h':Heap}{x e:Addr}{o':HO}
theorem HOk.write(ok:HOk P w H h)(mu:Mut (H x))(he:e=x∨H e=some (.own x))(k:∀b u,b≠e→h.get? b=some u→h'.get? b=some u)(heo:∃u,h'.get? e=some u)
  (new:ie P w (upd H x o') h' x o'):HOk P w (upd H x o') h':=fun b u q=>by
 have nown:∀c y,H c=some (.own y)→c≠x:=fun c y r z=>by subst z;rw[r]at mu;exact mu
 have ntup:∀c xs,H c=some (.tup xs)→c≠x:=fun c xs r z=>by subst z;rw[r]at mu;exact mu
 by_cases hb:b=x
 ·subst hb;rw[aX]at q;cases q;exact new
 ·rw[aO hb]at q
  by_cases hbe:b=e
  ·have q':H b=some (.own x):=by
    rcases he with z|z
    ·exact absurd (hbe.trans z) hb
    ·rw[hbe];exact z
   rw[q]at q';cases q'
   obtain⟨v,hv⟩:=heo
   exact⟨v,by rw[hbe];exact hv⟩
  ·refine(ok b u q).stay (fun c v hc r=>k c v ?_ r) (fun c r=>by rw[aO (nown c b r)];exact r) fun c xs r=>by rw[aO (ntup c xs r)];exact r
   rcases hc with rfl|hc
   ·exact hbe
   ·rintro rfl
    rcases he with z|z
    ·exact nown c b hc z
    ·rw[hc]at z;cases z;exact hb rfl
end
structure Un(fs ex:List Addr)(H H':Hp)(h h':Heap):Prop where
 keep:∀b o,h.get? b=some o→H b=none→b∉fs→b∉ex→h'.get? b=some o
 slot:∀b o,h.get? b=some o→H b=none→b∈fs→b∉ex→∃sl,h'.get? b=some {o with slots:=sl}
 free:∀b o,h.get? b=some o→H b=none→b∉ex→H' b=none
 there:∀b o,h.get? b=some o→b∉ex→∃o',h'.get? b=some o'
 tups:∀b xs,H b=some (.tup xs)→H' b=some (.tup xs)
 JZ:∀b o u,H b=some (.frz o u)→H' b=some (.frz o u)
 Ls:∀b ps,H b=some (.tbl ps)→∃more,H' b=some (.tbl (ps++more))
section
variable {fs fs' ex ex':List Addr}{H H1 H2:Hp}{h h1 h2 h':Heap}{a x e:Addr}{o:HO}
theorem Un.any(u:Un fs ex H H1 h h1){b:Addr}{ob:Obj}(q:h.get? b=some ob)(n:H b=none)(hx:b∉ex):∃sl,h1.get? b=some {ob with slots:=sl}:=by
 by_cases hb:b∈fs
 ·exact u.slot b ob q n hb hx
 ·exact⟨ob.slots,u.keep b ob q n hb hx⟩
theorem Un.kept(k:∀b u,h.get? b=some u→h'.get? b=some u):Un fs ex H H h h' :=
 ⟨fun b ob q _ _ _=>k b ob q,fun b ob q _ _ _=>⟨ob.slots,k b ob q⟩,fun _ _ _ n _=>n,fun b ob q _=>⟨ob,k b ob q⟩,fun _ _ q=>q,fun _ _ _ q=>q,fun _ ps q=>⟨#[],by rw[q];simp⟩⟩
theorem Un.refl:Un fs ex H H h h:=Un.kept fun _ _ q=>q
theorem Un.laid(k:∀b u,h.get? b=some u→h'.get? b=some u)(hp:h.objs.size≤a)(hn:H a=none):Un fs ex H (upd H a o) h h' where
 keep:=fun b u q _ _ _=>k b u q
 slot:=fun b u q _ _ _=>⟨u.slots,k b u q⟩
 free:=fun b u q n _=>by rw[aO (Nat.ne_of_lt (Nat.lt_of_lt_of_le (Heap.lt_size q) hp))];exact n
 there:=fun b u q _=>⟨u,k b u q⟩
 tups:=fun b xs q=>by rw[aO (bj q hn)];exact q
 JZ:=fun b u xs q=>by rw[aO (bj q hn)];exact q
 Ls:=fun b ps q=>⟨#[],by rw[aO (bj q hn),q];simp⟩
theorem Un.write(mu:Mut (H x))(he:e=x∨H e=some (.own x))(k:∀b u,b≠e→h.get? b=some u→h'.get? b=some u)(heo:∃u,h'.get? e=some u):Un fs ex H (upd H x o) h h':=by
 have hx:∀b,H b=none→b≠x:=fun b n z=>by subst z;rw[n]at mu;exact mu
 have hb:∀b,H b=none→b≠e:=fun b n z=>by
  subst z
  rcases he with r|r
  ·exact hx b n r
  ·rw[n]at r;cases r
 have hm:∀b u,H b=some u→¬Mut (some u)→b≠x:=fun b u q nm z=>by subst z;rw[q]at mu;exact nm mu
 refine⟨fun b u q n _ _=>k b u (hb b n) q,fun b u q n _ _=>⟨u.slots,k b u (hb b n) q⟩,fun b u q n _=>by rw[aO (hx b n)];exact n,fun b u q _=>?_,
  fun b xs q=>by rw[aO (hm b _ q fun z=>z)];exact q,fun b u xs q=>by rw[aO (hm b _ q fun z=>z)];exact q,fun b ps q=>⟨#[],by rw[aO (hm b _ q fun z=>z),q];simp⟩⟩
 by_cases hbe:b=e
 ·subst hbe;exact heo
 ·exact⟨u,k b u hbe q⟩
end
def trk(h:Heap)(H:Hp):List Addr:=(List.range h.objs.size).filter fun a=>(H a).isSome
def Ms(h:Heap)(H:Hp):Heap:=PySem.W.hideAll h (trk h H)
theorem X_(h:Heap)(H:Hp):(Ms h H).objs.size=h.objs.size:=PySem.W.hideAll_size _ _
theorem ZR{h:Heap}{H:Hp}{b:Addr}{o:Obj}(e:h.get? b=some o)(n:H b=none):(Ms h H).get? b=some o :=
 PySem.W.hideAll_get _ e fun hm=>by
  have q:(H b).isSome=true:=(List.mem_filter.mp hm).2
  rw[n]at q;simp at q
theorem abM{h:Heap}{H:Hp}{b:Addr}{o:Obj}(e:(Ms h H).get? b=some o):h.get? b=some o∧H b=none:=by
 have e':h.get? b=some o:=PySem.W.of_hideAll (trk h H) e
 refine⟨e',?_⟩
 cases q:H b with
 |none=>rfl
 |some x =>
  have hm:b∈trk h H:=List.mem_filter.mpr ⟨List.mem_range.mpr (Heap.lt_size e'),by simp[q]⟩
  have z:(Ms h H).get? b=none:=PySem.W.hideAll_none (trk h H) hm
  rw[z]at e;cases e
end L2
namespace L2
open PySem PySem.Spec PyProof.Rows
structure Mod(K:PySem.W.Frag)(mg:Str→Option Value)(base:Heap):Prop where
 kin:K.In base
 glob:base.Ns mainGlobals mg
 blt:∃mb,base.Ns builtinsNs mb∧∀x:Str,x≠"__name__"→mb x=bootBuiltins x
 nolimit:base.NoLimit
structure Cx where
 prog:Program
 w:World
 K:PySem.W.Frag
 mg:Str→Option Value
 base:Heap
 A:Around
 N:List Str
 s_0:Shared
 H_0:Hp
 env:Env
 outer:List Env
 stack:List Env
 ex:List Addr
 fn:Str→Bool
 calm:Bool
 pn:List (Addr×Obj)
 xe:Value→Shared→Prop
def frs(l:List Env):List Addr:=l.filterMap (·.frame)
abbrev Cx.fs(X:Cx):List Addr:=frs X.outer
def Vis(sc:Scope)(x:Str):Prop:=sc.names.lookup x=some .local∨sc.names.lookup x=some .cell∨sc.names.lookup x=some .free
def Loc(sc:Scope)(x:Str):Prop:=sc.names.lookup x=some .local∨sc.names.lookup x=some .cell
def Look(env:Env)(h:Heap)(m:Str→Option Value)(x:Str)(u:Value):Prop :=
 (env.kindOf x=some .local∧m x=some u)∨((env.kindOf x=some .cell∨env.kindOf x=some .free)∧∃c,env.cells.lookup x=some c∧h.IsCell c (some u))
structure Cx.Ok(X:Cx):Prop where
 mod:Mod X.K X.mg X.base
 kind:X.env.scope.kind=.function
 glob:X.env.globals=mainGlobals
 blt:X.env.builtins=builtinsNs
 above:X.s_0.heap.objs.size≤X.env.locals
 inj:∀x y c,X.env.cells.lookup x=some c→X.env.cells.lookup y=some c→x=y
 has:∀x,(X.env.kindOf x=some .cell∨X.env.kindOf x=some .free)→∃c,X.env.cells.lookup x=some c
 cab:∀x c,X.fn x=true→X.env.cells.lookup x=some c→X.s_0.heap.objs.size≤c
 hd:X.calm=true→X.A.handled=none
 frames:X.A.frames=some X.stack
 stk:X.stack=X.outer∨(X.stack=X.env::X.outer∧X.env.frame=some X.env.locals)
 exf:∀b∈X.ex,b≠X.env.locals∧∀x c,X.env.cells.lookup x=some c→c≠b
 bs:∀b o,X.base.get? b=some o→X.s_0.heap.get? b=some o∧X.H_0 b=none
 bsz:X.base.objs.size≤X.s_0.heap.objs.size
 Yp:∀b o,X.base.get? b=some o→b∉X.ex
 U5:∀b∈X.ex,b∉X.fs
 En:X.s_0.heap.FunFrames X.base X.outer
 frf:∀b∈X.fs,X.H_0 b=none
structure Inv(X:Cx)(pins:List (Addr×Obj))(σ:List (Option V))(H:Hp)(s:Shared):Prop where
 ok:X.Ok
 os:s.os=X.s_0.os
 bare:AllBare s.gens
 base:Un X.fs X.ex X.H_0 H X.s_0.heap s.heap
 loc:∃m,s.heap.Ns X.env.locals m∧∀(i:Nat) (x:Str) (v:V),X.N[i]?=some x→σ[i]?=some (some v)→Vis X.env.scope x→∃u,RelV v u∧Look X.env s.heap m x u
 cell:∀x c,X.env.cells.lookup x=some c→∃v,s.heap.IsCell c v
 free:H X.env.locals=none
 uc:∀x c,X.env.cells.lookup x=some c→H c=none
 pin:∀p∈X.pn++pins,s.heap.get? p.1=some p.2∧H p.1=none∧p.1≠X.env.locals∧p.1∉X.fs∧∀v,p.2.data≠.cell v
 hok:HOk X.prog X.w H s.heap
 len:σ.length=X.N.length
section
variable {X:Cx}{pins:List (Addr×Obj)}{σ:List (Option V)}{H H':Hp}{s:Shared}{h':Heap}
theorem Cx.Ok.aes(ok:X.Ok){b:Addr}{o:Obj}(e:X.base.get? b=some o):b∉X.fs:=fun hb=>by
 have:=(ok.En.mem hb).1
 rw[e]at this;cases this
theorem Inv.bs(I:Inv X pins σ H s):∀b o,X.base.get? b=some o→s.heap.get? b=some o∧H b=none:=fun b o e =>
 ⟨I.base.keep b o (I.ok.bs b o e).1 (I.ok.bs b o e).2 (I.ok.aes e) (I.ok.Yp b o e),I.base.free b o (I.ok.bs b o e).1 (I.ok.bs b o e).2 (I.ok.Yp b o e)⟩
theorem Inv.bk(I:Inv X pins σ H s):∀b o,X.base.get? b=some o→s.heap.get? b=some o:=fun b o e=>(I.bs b o e).1
theorem Inv.mod(I:Inv X pins σ H s):Mod X.K X.mg X.base:=I.ok.mod
theorem Inv.kIn(I:Inv X pins σ H s):X.K.In s.heap:=I.ok.mod.kin.keeps I.bk
theorem Inv.nolimit(I:Inv X pins σ H s):s.heap.NoLimit:=I.ok.mod.nolimit.keeps I.bk
theorem Inv.fr(I:Inv X pins σ H s):∃m,Fr X.base X.env.locals s.heap m :=
 let ⟨m,hn,_⟩:=I.loc
 ⟨m,hn,I.bk,Nat.le_trans I.ok.bsz I.ok.above⟩
theorem Inv.lt(I:Inv X pins σ H s):X.env.locals<s.heap.objs.size:=let ⟨_,hn,_⟩:=I.loc;hn.lt
theorem Inv.sz(I:Inv X pins σ H s):X.s_0.heap.objs.size≤s.heap.objs.size:=Nat.le_trans I.ok.above (Nat.le_of_lt I.lt)
theorem Inv.aet(I:Inv X pins σ H s){a:Addr}(h:s.heap.objs.size≤a):a∉X.fs:=fun hb=>by
 obtain⟨_,o,ho,_⟩:=I.ok.En.mem hb
 exact absurd (Nat.lt_of_lt_of_le (Heap.lt_size ho) (Nat.le_trans I.sz h)) (Nat.lt_irrefl _)
theorem Inv.cne(I:Inv X pins σ H s):∀x c,X.env.cells.lookup x=some c→c≠X.env.locals:=fun x c e z=>by
 obtain⟨v,o,ho,hd⟩:=I.cell x c e
 obtain⟨m,⟨o',es,ep,ho',hd',_⟩,_⟩:=I.loc
 rw[z,ho']at ho;cases ho;rw[hd']at hd;cases hd
theorem Inv.En(I:Inv X pins σ H s):s.heap.FunFrames X.base X.outer:=by
 have all:∀(l:List Env),(∀b∈frs l,b∈X.fs)→X.s_0.heap.FunFrames X.base l→s.heap.FunFrames X.base l:=by
  intro l
  induction l with
  |nil=>intro _ _;trivial
  |cons env r ih =>
   intro hs hl
   obtain⟨hk,⟨L,o,hf,hn,ho,hd⟩,hr⟩:=hl
   have hL:L∈X.fs:=hs L (by unfold frs;rw[List.filterMap_cons,hf];exact List.mem_cons_self)
   obtain⟨sl,e⟩:=I.base.slot L o ho (I.ok.frf L hL) hL fun z=>I.ok.U5 L z hL
   exact⟨hk,⟨L,_,hf,hn,e,hd⟩,ih (fun b hb=>hs b (by unfold frs;rw[List.filterMap_cons,hf];exact List.mem_cons_of_mem _ hb)) hr⟩
 exact all X.outer (fun _ hb=>hb) I.ok.En
theorem Inv.stack(I:Inv X pins σ H s):s.heap.FunFrames X.base X.stack:=by
 rcases I.ok.stk with e|⟨e,hf⟩
 ·rw[e];exact I.En
 ·rw[e]
  obtain⟨m,hn,_⟩:=I.loc
  refine .cons (by rw[I.ok.kind];decide) hf hn ?_ I.En
  exact Heap.get?_none_of_le (Nat.le_trans I.ok.bsz I.ok.above)
theorem Inv.Wc(I:Inv X pins σ H s):∀b∈frs X.stack,b∈X.env.locals::X.fs:=fun b hb=>by
 rcases I.ok.stk with e|⟨e,hf⟩
 ·rw[e]at hb;exact List.mem_cons_of_mem _ hb
 ·rw[e]at hb
  unfold frs at hb
  rw[List.filterMap_cons,hf]at hb
  exact hb
theorem Inv.Q6(I:Inv X pins σ H s):∀b∈frs X.stack,H b=none:=fun b hb=>by
 rcases List.mem_cons.mp (I.Wc b hb)with e|hb
 ·rw[e];exact I.free
 ·obtain⟨_,o,ho,_⟩:=I.ok.En.mem hb
  exact I.base.free b o ho (I.ok.frf b hb) fun z=>I.ok.U5 b z hb
theorem Inv.step{g':Array GenState}{t':Nat}{d':Drawn}{ch:List Addr}(I:Inv X pins σ H s)
  (hch:∀b∈ch,(b∈X.ex∨X.s_0.heap.objs.size≤b)∧b≠X.env.locals∧(∀x c,X.env.cells.lookup x=some c→c≠b)∧∀p∈X.pn++pins,p.1≠b)
  (keep:∀b o,b≠X.env.locals→b∉X.fs→b∉ch→s.heap.get? b=some o→H b=none→h'.get? b=some o)
  (slot:∀b o,b≠X.env.locals→b∈X.fs→b∉ch→s.heap.get? b=some o→H b=none→∃sl,h'.get? b=some {o with slots:=sl}) (free:∀b o,b∉ch→s.heap.get? b=some o→H b=none→H' b=none)
  (there:∀b o,b∉ch→s.heap.get? b=some o→∃o',h'.get? b=some o')
  (tups:∀b xs,H b=some (.tup xs)→H' b=some (.tup xs)) (JZ:∀b o u,H b=some (.frz o u)→H' b=some (.frz o u)) (Ls:∀b ps,H b=some (.tbl ps)→∃more,H' b=some (.tbl (ps++more)))
  (ns:∀m,s.heap.Ns X.env.locals m→h'.Ns X.env.locals m) (hok:HOk X.prog X.w H' h') (hg:AllBare g') :
  Inv X pins σ H' {s with heap:=h',gens:=g',drawn:=d',toks:=t'}:=by
 have neL:∀b o,X.s_0.heap.get? b=some o→b≠X.env.locals:=fun b o e=>Nat.ne_of_lt (Nat.lt_of_lt_of_le (Heap.lt_size e) I.ok.above)
 have neC:∀b o,X.s_0.heap.get? b=some o→b∉X.ex→b∉ch:=fun b o e hx hb=>by
  rcases(hch b hb).1 with z|z
  ·exact hx z
  ·exact absurd (Nat.lt_of_lt_of_le (Heap.lt_size e) z) (Nat.lt_irrefl _)
 have cellK:∀x c,X.env.cells.lookup x=some c→∀v,s.heap.IsCell c v→h'.IsCell c v:=fun x c e v ⟨o,ho,hd⟩=>by
  have nch:c∉ch:=fun z=>(hch c z).2.2.1 x c e rfl
  by_cases hc:c∈X.fs
  ·obtain⟨sl,q⟩:=slot c o (I.cne x c e) hc nch ho (I.uc x c e)
   exact⟨_,q,hd⟩
  ·exact⟨o,keep c o (I.cne x c e) hc nch ho (I.uc x c e),hd⟩
 refine⟨I.ok,I.os,hg,⟨fun b o e n hb hx=>?_,fun b o e n hb hx=>?_,fun b o e n hx=>?_,fun b o e hx=>?_,fun b xs e=>tups b xs (I.base.tups b xs e),fun b o xs e=>JZ b o xs (I.base.JZ b o xs e),fun b ps e=>?_⟩,?_,fun x c e=>?_,?_,fun x c e=>?_,fun p hp=>?_,hok,I.len⟩
 ·exact keep b o (neL b o e) hb (neC b o e hx) (I.base.keep b o e n hb hx) (I.base.free b o e n hx)
 ·obtain⟨sl,e1⟩:=I.base.slot b o e n hb hx
  obtain⟨sl',e2⟩:=slot b _ (neL b o e) hb (neC b o e hx) e1 (I.base.free b o e n hx)
  exact⟨sl',e2⟩
 ·obtain⟨o',e1⟩:=I.base.there b o e hx
  exact free b o' (neC b o e hx) e1 (I.base.free b o e n hx)
 ·obtain⟨o',e1⟩:=I.base.there b o e hx
  exact there b o' (neC b o e hx) e1
 ·obtain⟨m1,e1⟩:=I.base.Ls b ps e
  obtain⟨m2,e2⟩:=Ls b _ e1
  exact⟨m1++m2,by rw[e2,Array.append_assoc]⟩
 ·obtain⟨m,hn,hl⟩:=I.loc
  refine⟨m,ns m hn,fun i x v e1 e2 e3=>?_⟩
  obtain⟨u,r,l⟩:=hl i x v e1 e2 e3
  refine⟨u,r,?_⟩
  rcases l with l|⟨k,c,e,z⟩
  ·exact .inl l
  ·exact .inr ⟨k,c,e,cellK x c e _ z⟩
 ·obtain⟨v,z⟩:=I.cell x c e
  exact⟨v,cellK x c e v z⟩
 ·obtain⟨m,⟨o,_,_,ho,_⟩,_⟩:=I.loc
  exact free _ o (fun z=>(hch _ z).2.1 rfl) ho I.free
 ·obtain⟨v,o,ho,hd⟩:=I.cell x c e
  exact free c o (fun z=>(hch c z).2.2.1 x c e rfl) ho (I.uc x c e)
 ·obtain⟨e,n,ne,nf,d⟩:=I.pin p hp
  have nch:p.1∉ch:=fun z=>(hch p.1 z).2.2.2 p hp rfl
  exact⟨keep p.1 p.2 ne nf nch e n,free p.1 p.2 nch e n,ne,nf,d⟩
theorem Inv.un{t':Nat}(I:Inv X pins σ H s)(u:Un X.fs [] H H' s.heap h')(hok:HOk X.prog X.w H' h'):Inv X pins σ H' {s with heap:=h',toks:=t'}:=by
 obtain⟨m,⟨o,es,ep,ho,r⟩,_⟩:=id I.loc
 obtain⟨sl,hL⟩:=u.any ho I.free (by simp)
 exact I.step (g':=s.gens) (d':=s.drawn) (ch:=[]) (fun _ z=>nomatch z) (fun b o _ hb _ e n=>u.keep b o e n hb (by simp)) (fun b o _ hb _ e n=>u.slot b o e n hb (by simp)) (fun b o _ e n=>u.free b o e n (by simp)) (fun b o _ e=>u.there b o e (by simp)) u.tups u.JZ u.Ls (fun m' hm=>by
  obtain⟨o',es',ep',ho',r'⟩:=hm
  rw[ho]at ho';cases ho'
  exact⟨_,es',ep',hL,r'⟩) hok I.bare
theorem Inv.call{g':Array GenState}{t':Nat}{d':Drawn}{ch:List Addr}(I:Inv X pins σ H s)(u:Un (frs X.stack) ch H H' s.heap h')(hok:HOk X.prog X.w H' h')(hg:AllBare g')
  (hch:∀b∈ch,(b∈X.ex∨X.s_0.heap.objs.size≤b)∧b≠X.env.locals∧(∀x c,X.env.cells.lookup x=some c→c≠b)∧∀p∈X.pn++pins,p.1≠b) :
  Inv X pins σ H' {s with heap:=h',gens:=g',drawn:=d',toks:=t'}:=by
 obtain⟨m,⟨o,es,ep,ho,r⟩,_⟩:=id I.loc
 obtain⟨sl,hL⟩:=u.any ho I.free fun z=>(hch _ z).2.1 rfl
 exact I.step (ch:=ch) hch (fun b o hL hb hc e n=>u.keep b o e n (fun z=>(List.mem_cons.mp (I.Wc b z)).elim hL hb) hc) (fun b o _ _ hc e n=>u.any e n hc) (fun b o hc e n=>u.free b o e n hc) (fun b o hc e=>u.there b o e hc) u.tups u.JZ u.Ls (fun m' hm=>by
  obtain⟨o',es',ep',ho',r'⟩:=hm
  rw[ho]at ho';cases ho'
  exact⟨_,es',ep',hL,r'⟩) hok hg
theorem Inv.turned{t':Nat}{it:Addr}(I:Inv X pins σ H s)(k:∀b o,b≠it→s.heap.get? b=some o→h'.get? b=some o)(hn:H it=none)(hL:it≠X.env.locals)
  (h1:it∈X.ex∨X.s_0.heap.objs.size≤it) (h2:∀x c,X.env.cells.lookup x=some c→c≠it) (h3:∀p∈X.pn++pins,p.1≠it):Inv X pins σ H {s with heap:=h',toks:=t'}:=by
 have nit:∀b u,H b=some u→b≠it:=fun b u e z=>by rw[z,hn]at e;cases e
 refine I.step (g':=s.gens) (d':=s.drawn) (ch:=[it]) (fun b hb=>?_) (fun b o _ _ hc e _=>k b o (fun z=>hc (by simp[z])) e) (fun b o _ _ hc e _=>⟨o.slots,k b o (fun z=>hc (by simp[z])) e⟩) (fun _ _ _ _ n=>n)
  (fun b o hc e=>⟨o,k b o (fun z=>hc (by simp[z])) e⟩) (fun _ _ e=>e) (fun _ _ _ e=>e) (fun b ps e=>⟨#[],by rw[e];simp⟩) (fun m hm=>?_) (fun b u e=>?_) I.bare
 ·have e:b=it:=by simpa using hb
  subst e
  exact⟨h1,hL,h2,h3⟩
 ·obtain⟨o,es,ep,ho,r⟩:=hm
  exact⟨o,es,ep,k _ o (Ne.symm hL) ho,r⟩
 ·refine(I.hok b u e).stay (fun c v hc q=>k c v ?_ q) (fun _ q=>q) fun _ _ q=>q
  rcases hc with z|z
  ·rw[z];exact nit b u e
  ·exact nit c _ z
theorem Inv.tok(I:Inv X pins σ H s)(t:Nat):Inv X pins σ H {s with toks:=t}:=I.un (h':=s.heap) (t':=t) Un.refl I.hok
theorem Inv.kept{t':Nat}(I:Inv X pins σ H s)(k:∀b u,s.heap.get? b=some u→h'.get? b=some u):Inv X pins σ H {s with heap:=h',toks:=t'}:=I.un (Un.kept k) (I.hok.kept k)
theorem Inv.laid{a:Addr}{o:HO}{t':Nat}(I:Inv X pins σ H s)(k:∀b u,s.heap.get? b=some u→h'.get? b=some u)(hp:s.heap.objs.size≤a)(new:ie X.prog X.w (upd H a o) h' a o) :
  Inv X pins σ (upd H a o) {s with heap:=h',toks:=t'}:=I.un (Un.laid k hp (I.hok.fresh hp)) (I.hok.laid k hp new)
theorem Inv.write{x e:Addr}{o:HO}{t':Nat}(I:Inv X pins σ H s)(mu:Mut (H x))(he:e=x∨H e=some (.own x))(k:∀b u,b≠e→s.heap.get? b=some u→h'.get? b=some u)(heo:∃u,h'.get? e=some u)
  (new:ie X.prog X.w (upd H x o) h' x o):Inv X pins σ (upd H x o) {s with heap:=h',toks:=t'}:=I.un (Un.write mu he k heo) (I.hok.write mu he k heo new)
theorem Inv.weak{σ':List (Option V)}(I:Inv X pins σ H s)(hl:σ'.length=σ.length)(w:∀(i:Nat) v,σ'[i]?=some (some v)→σ[i]?=some (some v)):Inv X pins σ' H s :=
 ⟨I.ok,I.os,I.bare,I.base,let ⟨m,hn,hl'⟩:=I.loc;⟨m,hn,fun i x v e1 e2 e3=>hl' i x v e1 (w i v e2) e3⟩,I.cell,I.free,I.uc,I.pin,I.hok,hl.trans I.len⟩
theorem Inv.W8{pins':List (Addr×Obj)}(I:Inv X pins σ H s)(h:∀p∈pins',s.heap.get? p.1=some p.2∧H p.1=none∧p.1≠X.env.locals∧p.1∉X.fs∧∀v,p.2.data≠.cell v):Inv X pins' σ H s :=
 ⟨I.ok,I.os,I.bare,I.base,I.loc,I.cell,I.free,I.uc,fun p hp=>(List.mem_append.mp hp).elim (fun z=>I.pin p (List.mem_append_left _ z)) (h p),I.hok,I.len⟩
theorem Et{N:List Str}(hN:N.Nodup){i j:Nat}{x:Str}(a:N[i]?=some x)(b:N[j]?=some x):i=j:=by
 obtain⟨h1,e1⟩:=List.getElem?_eq_some_iff.mp a
 obtain⟨h2,e2⟩:=List.getElem?_eq_some_iff.mp b
 exact(List.getElem_inj hN).mp (e1.trans e2.symm)
theorem Oi{M:Model}{A:Around}{E:Value→Shared→Prop}{i:Nat}{x:Str}{v:V}{u:Value}{Q:Unit→Shared→Prop}(I:Inv X pins σ H s)(hN:X.N.Nodup)(hi:X.N[i]?=some x)(hx:Loc X.env.scope x)(r:RelV v u)
  (h:∀s',Inv X pins (σ.set i (some v)) H s'→(∃a,Heap.SameBut a s.heap s'.heap∧(a=X.env.locals∨X.env.cells.lookup x=some a))→Q () s') (hf:X.fn x=true∨X.env.scope.names.lookup x=some .local:=by first | exact .inl rfl | exact .inr rfl | assumption):wpAny M A (storeName X.env x u) Q E s:=by
 obtain⟨m,hn,hl⟩:=id I.loc
 have hcls:(X.env.scope.kind==.class||(X.env.scope.kind==.module&&X.env.locals != X.env.globals))=false:=by rw[I.ok.kind];rfl
 have hiσ:i<σ.length:=by rw[I.len];exact(List.getElem?_eq_some_iff.mp hi).1
 have cne:=I.cne
 have tracked:∀{a:Addr} {h':Heap},(∃o,s.heap.get? a=some o∧H a=none)→Heap.SameBut a s.heap h'→HOk X.prog X.w H h':=fun{a h'} ha hs b ob e=>by
  obtain⟨_,_,hfree⟩:=ha
  refine(I.hok b ob e).stay (fun c w' hc q=>(hs.2 c ?_).trans q) (fun _ q=>q) fun _ _ q=>q
  rintro rfl
  rcases hc with rfl|hc
  ·rw[hfree]at e;cases e
  ·rw[hfree]at hc;cases hc
 rcases hx with hk|hk
 ·refine wpAny_storeName_local hk hn (fun h' hn' hs=>?_) hcls
  obtain⟨oL,_,_,hoL,_⟩:=id hn
  refine h _ ⟨I.ok,I.os,I.bare,⟨fun b o e n hb hx=>?_,fun b o e n hb hx=>?_,I.base.free,fun b o e hx=>?_,I.base.tups,I.base.JZ,I.base.Ls⟩,⟨_,hn',fun j y v' e1 e2 e3=>?_⟩,fun y c e=>?_,I.free,I.uc,fun p hp=>?_,tracked ⟨oL,hoL,I.free⟩ hs,by simpa using I.len⟩ ⟨_,hs,.inl rfl⟩
  ·exact(hs.2 b (Nat.ne_of_lt (Nat.lt_of_lt_of_le (Heap.lt_size e) I.ok.above))).trans (I.base.keep b o e n hb hx)
  ·obtain⟨sl,e1⟩:=I.base.slot b o e n hb hx
   exact⟨sl,(hs.2 b (Nat.ne_of_lt (Nat.lt_of_lt_of_le (Heap.lt_size e) I.ok.above))).trans e1⟩
  ·obtain⟨o',e1⟩:=I.base.there b o e hx
   exact⟨o',(hs.2 b (Nat.ne_of_lt (Nat.lt_of_lt_of_le (Heap.lt_size e) I.ok.above))).trans e1⟩
  ·by_cases hj:j=i
   ·subst hj
    rw[hi]at e1;cases e1
    rw[List.getElem?_set_self hiσ]at e2
    cases e2
    exact⟨u,r,.inl ⟨hk,by simp⟩⟩
   ·rw[List.getElem?_set_ne (Ne.symm hj)]at e2
    obtain⟨u',r',q⟩:=hl j y v' e1 e2 e3
    refine⟨u',r',?_⟩
    rcases q with ⟨k,e⟩|⟨k,c,e,z⟩
    ·refine .inl ⟨k,?_⟩
     have:y≠x:=fun e=>hj (Et hN e1 (e▸hi))
     simp[this,e]
    ·exact .inr ⟨k,c,e,z.sameBut hs (cne y c e)⟩
  ·obtain⟨w',z⟩:=I.cell y c e
   exact⟨w',z.sameBut hs (cne y c e)⟩
  ·obtain⟨e,n,ne,nf,d⟩:=I.pin p hp
   exact⟨(hs.2 p.1 ne).trans e,n,ne,nf,d⟩
 ·have hfn:X.fn x=true:=by
   rcases hf with z|z
   ·exact z
   ·rw[z]at hk;cases hk
  obtain⟨c,hc⟩:=I.ok.has x (.inl hk)
  obtain⟨w',z⟩:=I.cell x c hc
  refine wpAny_storeName_cell I.ok.kind hk hc z (fun h' hc' hs=>?_)
  obtain⟨oc,hoc,hocd⟩:=id z
  refine h {s with heap:=h'} ⟨I.ok,I.os,I.bare,⟨fun b o e n hb hx=>?_,fun b o e n hb hx=>?_,I.base.free,fun b o e hx=>?_,I.base.tups,I.base.JZ,I.base.Ls⟩,⟨m,hn.sameBut hs (Ne.symm (cne x c hc)),fun j y v' e1 e2 e3=>?_⟩,fun y c' e=>?_,I.free,I.uc,fun p hp=>?_,tracked ⟨oc,hoc,I.uc x c hc⟩ hs,by simpa using I.len⟩ ⟨c,hs,.inr hc⟩
  ·exact(hs.2 b (Nat.ne_of_lt (Nat.lt_of_lt_of_le (Heap.lt_size e) (I.ok.cab x c hfn hc)))).trans (I.base.keep b o e n hb hx)
  ·obtain⟨sl,e1⟩:=I.base.slot b o e n hb hx
   exact⟨sl,(hs.2 b (Nat.ne_of_lt (Nat.lt_of_lt_of_le (Heap.lt_size e) (I.ok.cab x c hfn hc)))).trans e1⟩
  ·obtain⟨o',e1⟩:=I.base.there b o e hx
   exact⟨o',(hs.2 b (Nat.ne_of_lt (Nat.lt_of_lt_of_le (Heap.lt_size e) (I.ok.cab x c hfn hc)))).trans e1⟩
  ·by_cases hj:j=i
   ·subst hj
    rw[hi]at e1;cases e1
    rw[List.getElem?_set_self hiσ]at e2
    cases e2
    exact⟨u,r,.inr ⟨.inl hk,c,hc,hc'⟩⟩
   ·rw[List.getElem?_set_ne (Ne.symm hj)]at e2
    obtain⟨u',r',q⟩:=hl j y v' e1 e2 e3
    refine⟨u',r',?_⟩
    rcases q with q|⟨k,c',e,z'⟩
    ·exact .inl q
    ·refine .inr ⟨k,c',e,z'.sameBut hs ?_⟩
     rintro rfl
     exact hj (Et hN e1 (I.ok.inj _ _ _ e hc▸hi))
  ·by_cases hcc:c'=c
   ·subst hcc;exact⟨_,hc'⟩
   ·obtain⟨w2,z2⟩:=I.cell y c' e
    exact⟨w2,z2.sameBut hs hcc⟩
  ·obtain⟨e,n,ne,nf,d⟩:=I.pin p hp
   refine⟨(hs.2 p.1 ?_).trans e,n,ne,nf,d⟩
   intro q
   rw[q,hoc]at e
   have q':oc=p.2:=Option.some.inj e
   exact d w' (by rw[← q'];exact hocd)
theorem Tv{M:Model}{A:Around}{E:Value→Shared→Prop}{i:Nat}{x:Str}{v:V}{u:Value}{Q:Unit→Shared→Prop}(I:Inv X pins σ H s)(hN:X.N.Nodup)(hi:X.N[i]?=some x)(hx:Loc X.env.scope x)(r:RelV v u)
  (h:∀s',Inv X pins (σ.set i (some v)) H s'→Q () s') (hf:X.fn x=true∨X.env.scope.names.lookup x=some .local:=by first | exact .inl rfl | exact .inr rfl | assumption):wpAny M A (storeName X.env x u) Q E s :=
 Oi I hN hi hx r (fun s' I' _=>h s' I') hf
theorem Inv.call'{s':Shared}{ch:List Addr}(I:Inv X pins σ H s)(ho:s'.os=s.os)(u:Un (frs X.stack) ch H H' s.heap s'.heap)(hok:HOk X.prog X.w H' s'.heap)(hg:AllBare s'.gens)
  (hch:∀b∈ch,(b∈X.ex∨X.s_0.heap.objs.size≤b)∧b≠X.env.locals∧(∀x c,X.env.cells.lookup x=some c→c≠b)∧∀p∈X.pn++pins,p.1≠b):Inv X pins σ H' s':=by
 obtain⟨h',g',d',t',o'⟩:=s'
 have e:o'=s.os:=ho
 subst e
 exact I.call (g':=g') (t':=t') (d':=d') u hok hg hch
end
abbrev XK:=Value→Option Addr→Hp→Prop
abbrev St:=List (Option V)
abbrev VK:=V→Hp→Prop
abbrev TE:=St→Hp→VK→Prop
abbrev TT:=St→Hp→(Bool→Hp→Prop)→Prop
abbrev TA:=St→Hp→(List V→Hp→Prop)→Prop
structure Ends where
 nx:St→Hp→Prop
 rt:VK
 bk:St→Hp→Prop:=fun _ _=>False
 ct:St→Hp→Prop:=fun _ _=>False
abbrev TS:=Ends→St→Hp→Prop
def EP(X:Cx)(pins:List (Addr×Obj))(σ:St)(Q:VK)(u:Value)(s':Shared):Prop:=∃v H',Inv X pins σ H' s'∧RelV v u∧Q v H'
def TP(X:Cx)(pins:List (Addr×Obj))(σ:St)(Q:Bool→Hp→Prop)(b:Bool)(s':Shared):Prop:=∃H',Inv X pins σ H' s'∧Q b H'
def AP(X:Cx)(pins:List (Addr×Obj))(σ:St)(Q:List V→Hp→Prop)(us:List Value)(s':Shared):Prop:=∃vs H',Inv X pins σ H' s'∧Vals vs us∧Q vs H'
def SP(X:Cx)(pins:List (Addr×Obj))(D:Ends)(f:Flow)(s':Shared):Prop :=
 match f with
 |.next=>∃σ' H',Inv X pins σ' H' s'∧D.nx σ' H'
 |.brk=>∃σ' H',Inv X pins σ' H' s'∧D.bk σ' H'
 |.cont=>∃σ' H',Inv X pins σ' H' s'∧D.ct σ' H'
 |.ret u=>∃v σ' H',Inv X pins σ' H' s'∧RelV v u∧D.rt v H'
def PE(X:Cx)(e:Expr)(t:TE):Prop :=
 ∀(pins:List (Addr×Obj)) (s:Shared) (σ:St) (H:Hp) (Q:VK),Inv X pins σ H s→t σ H Q→wpAny (model X.prog X.w) X.A (eval e X.env) (EP X pins σ Q) X.xe s
def PT(X:Cx)(e:Expr)(t:TT):Prop :=
 ∀(pins:List (Addr×Obj)) (s:Shared) (σ:St) (H:Hp) (Q:Bool→Hp→Prop),Inv X pins σ H s→t σ H Q→wpAny (model X.prog X.w) X.A (isTrue e X.env (eval e X.env)) (TP X pins σ Q) X.xe s
def PW(X:Cx)(e:Expr)(t:TT):Prop :=
 ∀(whole:Sem Value) (pins:List (Addr×Obj)) (s:Shared) (σ:St) (H:Hp) (Q:Bool→Hp→Prop),Inv X pins σ H s→t σ H Q→wpAny (model X.prog X.w) X.A (isTrue e X.env whole) (TP X pins σ Q) X.xe s
theorem PW.pt{X:Cx}{e:Expr}{t:TT}(h:PW X e t):PT X e t:=h _
def PA(X:Cx)(es:List Expr)(t:TA):Prop :=
 ∀(pos:Pos) (pins:List (Addr×Obj)) (s:Shared) (σ:St) (H:Hp) (Q:List V→Hp→Prop),Inv X pins σ H s→t σ H Q→wpAny (model X.prog X.w) X.A (spliced (backTo pos (starEach es X.env))) (AP X pins σ Q) X.xe s
def PS(X:Cx)(st:Stmt)(t:TS):Prop :=
 ∀(pins:List (Addr×Obj)) (s:Shared) (σ:St) (H:Hp) (D:Ends),Inv X pins σ H s→t D σ H→wpAny (model X.prog X.w) X.A (exec st X.env) (SP X pins D) X.xe s
def PSs(X:Cx)(st:List Stmt)(t:TS):Prop :=
 ∀(pins:List (Addr×Obj)) (s:Shared) (σ:St) (H:Hp) (D:Ends),Inv X pins σ H s→t D σ H→wpAny (model X.prog X.w) X.A (execs st X.env) (SP X pins D) X.xe s
theorem thn{α:Type}{t:Sem α}{Q Q':α→Shared→Prop}{M:Model}{A:Around}{E:Value→Shared→Prop}{s:Shared}(h:wpAny M A t Q E s)(hQ:∀a s,Q a s→Q' a s):wpAny M A t Q' E s:=wpAny_mono h hQ fun _ _ x=>x
end L2
namespace L2
open PySem PySem.Spec PyProof.Rows
section
variable {X:Cx}
theorem bin{a b:Expr}{ta tb:TE}(ha:PE X a ta)(hb:PE X b tb){pins:List (Addr×Obj)}{s:Shared}{σ:St}{H:Hp}{R:V→V→Hp→Prop}(I:Inv X pins σ H s)(h:ta σ H fun x H1=>tb σ H1 fun y H2=>R x y H2)
  {α:Type} {Q:α→Shared→Prop} {f:Value→Value→Sem α}
  (hf:∀v u s2 x y H2,Inv X pins σ H2 s2→RelV x v→RelV y u→R x y H2→wpAny (model X.prog X.w) X.A (f v u) Q X.xe s2) :
  wpAny (model X.prog X.w) X.A (eval a X.env) (fun v s₁=>wpAny (model X.prog X.w) X.A (eval b X.env) (fun u s₂=>wpAny (model X.prog X.w) X.A (f v u) Q X.xe s₂) X.xe s₁) X.xe s:=by
 refine thn (ha pins s σ H _ I h) fun v s1 ⟨x,H1,I1,r1,q1⟩=>?_
 refine thn (hb pins s1 σ H1 _ I1 q1) fun u s2 ⟨y,H2,I2,r2,q2⟩=>?_
 exact hf v u s2 x y H2 I2 r1 r2 q2
def cu(i:Nat):TE:=fun σ H Q=>∃v,σ[i]?=some (some v)∧Q v H
def tC(v:V):TE:=fun _ H Q=>Q v H
theorem adu{i:Nat}{x:Str}{pos:Pos}(hN:X.N[i]?=some x)(hv:Vis X.env.scope x)(hd:(x==("__debug__" : Str))=false:=by decide)(hcd:(x==("__classdict__" : Str))=false:=by decide):PE X (.Name x pos) (cu i):=by
 intro pins s σ H Q I h
 obtain⟨v,e,h⟩:=h
 obtain⟨m,hn,hl⟩:=I.loc
 obtain⟨u,r,l⟩:=hl i x v hN e hv
 have fin:EP X pins σ Q u s:=⟨v,H,I,r,h⟩
 rcases l with ⟨hk,hm⟩|⟨hk,c,hc,hcell⟩
 ·exact wpAny_Name (wpAny_loadName_local I.ok.kind hk hn hm fin) hd
 ·rcases hk with hk | hk
  ·exact wpAny_Name (wpAny_loadName_cell I.ok.kind hk hc hcell fin) hd
  ·exact wpAny_Name (wpAny_loadName_free I.ok.kind hk hc hcell fin hcd) hd
theorem aH{i j pos}:PE X (.Constant (.int i) j pos) (tC (.int i)):=fun _ _ _ H _ I h=>wpAny_Constant_int ⟨.int i,H,I.tok _,⟨_,rfl⟩,h⟩
theorem lN{b j pos}:PE X (.Constant (.bool b) j pos) (tC (.bl b)):=fun _ _ _ H _ I h=>Constant_bool ⟨.bl b,H,I,rfl,h⟩
theorem VG{j pos}:PE X (.Constant .none j pos) (tC .non):=fun _ _ _ H _ I h=>Constant_none ⟨.non,H,I,rfl,h⟩
def Gl(X:Cx)(x:Str):Prop:=X.env.kindOf x=some .globalImplicit
theorem IW{E:Value→Shared→Prop}{pins:List (Addr×Obj)}{s:Shared}{σ:St}{H:Hp}{x:Str}{u:Value}{pos:Pos}{Q:Value→Shared→Prop}(I:Inv X pins σ H s)(hg:Gl X x)(hm:X.mg x=some u)(h:Q u s)
  (hd:(x==("__debug__" : Str))=false:=by decide):wpAny (model X.prog X.w) X.A (eval (.Name x pos) X.env) Q E s :=
 Calls.Name_function_global I.ok.kind hg (Calls.loadGlobal_global (by rw[I.ok.glob];exact I.mod.glob.keeps I.bk) hm h) hd
theorem CV{E:Value→Shared→Prop}{pins:List (Addr×Obj)}{s:Shared}{σ:St}{H:Hp}{x:Str}{u:Value}{pos:Pos}{Q:Value→Shared→Prop}(I:Inv X pins σ H s)(hg:Gl X x)(hm:X.mg x=none)(hv:bootBuiltins x=some u)(h:Q u s)
  (hn:x≠"__name__":=by decide) (hd:(x==("__debug__" : Str))=false:=by decide):wpAny (model X.prog X.w) X.A (eval (.Name x pos) X.env) Q E s:=by
 obtain⟨mb,h1,h2⟩:=I.mod.blt
 exact Calls.Name_function_global I.ok.kind hg (Calls.loadGlobal_builtin (by rw[I.ok.glob];exact I.mod.glob.keeps I.bk) hm (by rw[I.ok.blt];exact h1.keeps I.bk) ((h2 x hn).trans hv) h) hd
theorem W6{x:Str}{v:V}{u:Value}{pos:Pos}(hg:Gl X x)(hm:X.mg x=some u)(r:RelV v u)(hd:(x==("__debug__" : Str))=false:=by decide):PE X (.Name x pos) (tC v) :=
 fun _ _ _ H _ I h=>IW I hg hm ⟨v,H,I,r,h⟩ hd
variable {a b:Expr}{ta tb:TE}{pos:Pos}
def PC(X:Cx)(op:CmpOp)(a b:Expr)(t:TE):Prop :=
 ∀(pins:List (Addr×Obj)) (s:Shared) (σ:St) (H:Hp) (Q:VK),Inv X pins σ H s→t σ H Q →
  wpAny (model X.prog X.w) X.A (eval a X.env) (fun v s₁=>wpAny (model X.prog X.w) X.A (eval b X.env) (fun u s₂=>wpAny (model X.prog X.w) X.A (compareOp op v u) (EP X pins σ Q) X.xe s₂) X.xe s₁) X.xe s
theorem aaj(b:Expr){op:CmpOp}(h:op≠.In)(h2:op≠.NotIn):behindInMarks op b=false:=by
 have e1:(op==CmpOp.In)=false:=by cases op<;>first | rfl | exact absurd rfl h
 have e2:(op==CmpOp.NotIn)=false:=by cases op<;>first | rfl | exact absurd rfl h2
 cases b<;>simp[behindInMarks,e1,e2]
def tB(t:TE):TT:=fun σ H Q=>t σ H fun x H1=>∃c,x=.bl c∧Q c H1
theorem aaG{op:CmpOp}{t:TE}(h:PC X op a b t)(h1:behindInMarks op b=false:=by first | exact aaj _ (by decide) (by decide) | rfl):PT X (.Compare a [op] [b] pos) (tB t):=by
 intro pins s σ H Q I hw
 refine wpAny_isTrue_Compare1 (thn (h pins s σ H _ I hw) fun v s1 h1=>thn h1 fun u s2 h2=>thn h2 fun c s3 ⟨x,H1,I1,r1,q1⟩=>?_) h1
 obtain⟨d,rfl,q⟩:=q1
 cases r1
 exact wpAny_truthy_bool ⟨H1,I1,q⟩
theorem bJ{e:Expr}{t:TE}(h:PE X e t)(he:∀whole,isTrue e X.env whole=(do let v ← whole;standAt e.pos;holding [v] (truthy v)):=by intro _;rfl):PT X e (tB t):=by
 intro pins s σ H Q I hw
 refine isTrue_plain (thn (h pins s σ H _ I hw) fun v s1 ⟨x,H1,I1,r1,q1⟩=>?_) (he _)
 obtain⟨d,rfl,q⟩:=q1
 cases r1
 exact wpAny_truthy_bool ⟨H1,I1,q⟩
variable {tA tB':TT}{rest:List Expr}
def aee(t u:TT):TT:=fun σ H Q=>t σ H fun c H1=>if c=true then u σ H1 Q else Q false H1
def tOr(t u:TT):TT:=fun σ H Q=>t σ H fun c H1=>if c=true then Q true H1 else u σ H1 Q
def adE(t:TT):TT:=fun σ H Q=>t σ H fun c H1=>Q (!c) H1
theorem Fe(ha:PT X a tA):PW X (.BoolOp .And [a] pos) tA:=by
 intro wh pins s σ H Q I h
 refine isTrue_and (thn (ha pins s σ H Q I h) fun c s1 e=>?_)
 cases c with
 |true=>exact isTrue_and_nil e
 |false=>exact e
theorem GC(ha:PT X a tA):PW X (.BoolOp .Or [a] pos) tA:=by
 intro wh pins s σ H Q I h
 refine isTrue_or (thn (ha pins s σ H Q I h) fun c s1 e=>?_)
 cases c with
 |false=>exact isTrue_or_nil e
 |true=>exact e
theorem KD(ha:PT X a tA)(hb:PW X (.BoolOp .And (b::rest) pos) tB'):PW X (.BoolOp .And (a::b::rest) pos) (aee tA tB'):=by
 intro wh pins s σ H Q I h
 refine isTrue_and (thn (ha pins s σ H _ I h) fun c s1 ⟨H1,I1,q1⟩=>?_)
 cases c with
 |true=>exact hb wh pins s1 σ H1 Q I1 q1
 |false=>exact⟨H1,I1,q1⟩
theorem HF(ha:PT X a tA)(hb:PW X (.BoolOp .Or (b::rest) pos) tB'):PW X (.BoolOp .Or (a::b::rest) pos) (tOr tA tB'):=by
 intro wh pins s σ H Q I h
 refine isTrue_or (thn (ha pins s σ H _ I h) fun c s1 ⟨H1,I1,q1⟩=>?_)
 cases c with
 |true=>exact⟨H1,I1,q1⟩
 |false=>exact hb wh pins s1 σ H1 Q I1 q1
theorem cD(ha:PT X a tA):PT X (.UnaryOp .Not a pos) (adE tA):=by
 intro pins s σ H Q I h
 exact isTrue_not (ha pins s σ H (fun c H1=>Q (!c) H1) I h)
def acA(ta tb:TE):TE:=fun σ H Q=>ta σ H fun x H1=>∃c,x=.bl c∧if c=true then tb σ H1 Q else Q (.bl false) H1
def aeg(ta tb:TE):TE:=fun σ H Q=>ta σ H fun x H1=>∃c,x=.bl c∧if c=true then Q (.bl true) H1 else tb σ H1 Q
def acC(ta:TE):TE:=fun σ H Q=>ta σ H fun x H1=>∃c,x=.bl c∧Q (.bl (!c)) H1
theorem wC{op}{t:TE}(h:PE X a t):PE X (.BoolOp op [a] pos) t:=fun pins s σ H Q I hw=>BoolOp_one (h pins s σ H Q I hw)
theorem wB(ha:PE X a ta)(hb:PE X (.BoolOp .And (b::rest) pos) tb):PE X (.BoolOp .And (a::b::rest) pos) (acA ta tb):=by
 intro pins s σ H Q I h
 refine BoolOp_and (thn (ha pins s σ H _ I h) fun v s1 ⟨x,H1,I1,r1,q1⟩=>?_)
 obtain⟨c,rfl,q1⟩:=q1
 cases r1
 refine wpAny_truthy_bool ?_
 cases c with
 |true=>exact hb pins s1 σ H1 Q I1 q1
 |false=>exact⟨.bl false,H1,I1,rfl,q1⟩
theorem acw(ha:PE X a ta)(hb:PE X (.BoolOp .Or (b::rest) pos) tb):PE X (.BoolOp .Or (a::b::rest) pos) (aeg ta tb):=by
 intro pins s σ H Q I h
 refine BoolOp_or (thn (ha pins s σ H _ I h) fun v s1 ⟨x,H1,I1,r1,q1⟩=>?_)
 obtain⟨c,rfl,q1⟩:=q1
 cases r1
 refine wpAny_truthy_bool ?_
 cases c with
 |false=>exact hb pins s1 σ H1 Q I1 q1
 |true=>exact⟨.bl true,H1,I1,rfl,q1⟩
theorem aaC(ha:PE X a ta):PE X (.UnaryOp .Not a pos) (acC ta):=by
 intro pins s σ H Q I h
 refine UnaryOp_ (thn (ha pins s σ H _ I h) fun v s1 ⟨x,H1,I1,r1,q1⟩=>?_)
 obtain⟨c,rfl,q1⟩:=q1
 cases r1
 exact not_of (wpAny_truthy_bool ⟨.bl (!c),H1,I1,rfl,q1⟩)
def tIf(t:TT)(ta tb:TE):TE:=fun σ H Q=>t σ H fun c H1=>if c=true then ta σ H1 Q else tb σ H1 Q
theorem SM{c:Expr}(hc:PT X c tA)(ha:PE X a ta)(hb:PE X b tb):PE X (.IfExp c a b pos) (tIf tA ta tb):=by
 intro pins s σ H Q I h
 refine wpAny_IfExp (thn (hc pins s σ H _ I h) fun d s1 ⟨H1,I1,q1⟩=>?_)
 cases d with
 |true=>exact ha pins s1 σ H1 Q I1 q1
 |false=>exact hb pins s1 σ H1 Q I1 q1
end
end L2
namespace L2
open PySem PySem.Spec PyProof.Rows
def SqL(K:PySem.W.Frag)(H:Hp)(a:Addr)(xs:List V):Prop :=
 Rd H a (.lst xs) ∨
  ∃(o:Obj) (its:Array Value) (n:Nat),K.lookup a=some o∧o.cls=.type "list"∧o.dict=none∧o.data=.seq its n∧its.size≤sizeLine∧Vals xs its.toList
def ael:Value→Option V
 |.none=>some .non
 |.bool b=>some (.bl b)
 |.int i _=>some (.int i)
 |.str x _=>some (.str x)
 |.bytes b _=>some (.byt b)
 |.float b _=>some (.flt b)
 |.ref a=>some (.ref a)
 |.type n=>some (.ty n)
 |_=>none
theorem RelV.abs{x:V}{u:Value}(r:RelV x u):ael u=some x:=by
 cases x with
 |non=>cases r;rfl
 |bl _=>cases r;rfl
 |int _=>obtain⟨t,rfl⟩:=r;rfl
 |str _=>obtain⟨t,rfl⟩:=r;rfl
 |byt _=>obtain⟨t,rfl⟩:=r;rfl
 |flt _=>obtain⟨t,rfl⟩:=r;rfl
 |ref _=>cases r;rfl
 |ty _=>cases r;rfl
theorem RelV.inj{x y:V}{u:Value}(r:RelV x u)(q:RelV y u):x=y:=Option.some.inj (r.abs.symm.trans q.abs)
theorem Vals.inj:∀{xs ys:List V} {us:List Value},Vals xs us→Vals ys us→xs=ys
 |_,_,_,.nil,.nil=>rfl
 |_,_,_,.cons r t,.cons r' t'=>by rw[r.inj r',Vals.inj t t']
section
variable {X:Cx}{pins:List (Addr×Obj)}{σ:St}{H:Hp}{s:Shared}{a:Addr}{xs ys:List V}
theorem SqL.of{K:PySem.W.Frag}(h:H a=some (.lst xs)):SqL K H a xs:=.inl (.inl h)
theorem SqT.of{K:PySem.W.Frag}(h:H a=some (.tup xs)):SqT K H a xs:=.inl (.inl h)
theorem Inv.list(I:Inv X pins σ H s)(h:SqL X.K H a xs):∃its:List Value,Vals xs its∧PlainL s.heap a its.toArray∧xs.length≤sizeLine:=by
 rcases h with h|⟨o,its,n,hk,hc,hd,hs,hz,r⟩
 ·obtain⟨z,its,n,r,e⟩:=h.ok I.hok
  exact⟨its,r,⟨_,n,e,rfl,rfl,rfl⟩,z⟩
 ·refine⟨its.toList,r,⟨o,n,I.kIn a o hk,hc,hd,by simpa using hs⟩,?_⟩
  have e:=r.length
  simp only[Array.length_toList]at e
  omega
theorem Inv.tuple(I:Inv X pins σ H s)(h:SqT X.K H a xs):∃its:List Value,Vals xs its∧IsTup s.heap a its.toArray∧xs.length≤sizeLine:=by
 rcases h with h|⟨o,its,n,hk,hc,hs,hz,r⟩
 ·obtain⟨z,its,r,p⟩:=h.ok I.hok
  exact⟨its,r,p,z⟩
 ·refine⟨its.toList,r,⟨o,I.kIn a o hk,hc,n,by simpa using hs⟩,?_⟩
  have e:=r.length
  simp only[Array.length_toList]at e
  omega
theorem Inv.aae(I:Inv X pins σ H s)(h:SqL X.K H a xs)(h':SqL X.K H a ys):xs=ys:=by
 obtain⟨its,r,⟨o,n,e,_,_,d⟩,_⟩:=I.list h
 obtain⟨its',r',⟨o',n',e',_,_,d'⟩,_⟩:=I.list h'
 rw[e]at e';cases e'
 rw[d]at d'
 injection d' with d1 _
 have:its=its':=by simpa using congrArg Array.toList d1
 subst this
 exact r.inj r'
end
abbrev Cx.wish(X:Cx)(E:Value→Shared→Prop):Cx:={X with xe:=E}
abbrev Cx.nox(X:Cx):Cx:=X.wish fun _ _=>False
theorem Cx.Ok.wish{X:Cx}(ok:X.Ok)(E:Value→Shared→Prop):(X.wish E).Ok :=
 ⟨ok.mod,ok.kind,ok.glob,ok.blt,ok.above,ok.inj,ok.has,ok.cab,ok.hd,ok.frames,ok.stk,ok.exf,ok.bs,ok.bsz,ok.Yp,ok.U5,ok.En,ok.frf⟩
theorem Cx.Ok.Ao{X:Cx}{E:Value→Shared→Prop}(ok:(X.wish E).Ok):X.Ok :=
 ⟨ok.mod,ok.kind,ok.glob,ok.blt,ok.above,ok.inj,ok.has,ok.cab,ok.hd,ok.frames,ok.stk,ok.exf,ok.bs,ok.bsz,ok.Yp,ok.U5,ok.En,ok.frf⟩
section
variable {X:Cx}{pins:List (Addr×Obj)}{σ:St}{H:Hp}{s:Shared}{E:Value→Shared→Prop}
theorem Inv.wish(I:Inv X pins σ H s)(E:Value→Shared→Prop):Inv (X.wish E) pins σ H s:=⟨I.ok.wish E,I.os,I.bare,I.base,I.loc,I.cell,I.free,I.uc,I.pin,I.hok,I.len⟩
theorem Inv.Ao(I:Inv (X.wish E) pins σ H s):Inv X pins σ H s:=⟨I.ok.Ao,I.os,I.bare,I.base,I.loc,I.cell,I.free,I.uc,I.pin,I.hok,I.len⟩
theorem SP.Ao{D:Ends}{f:Flow}{s':Shared}(h:SP (X.wish E) pins D f s'):SP X pins D f s':=by
 cases f with
 |next=>obtain⟨σ',H',I,q⟩:=h;exact⟨σ',H',I.Ao,q⟩
 |brk=>obtain⟨σ',H',I,q⟩:=h;exact⟨σ',H',I.Ao,q⟩
 |cont=>obtain⟨σ',H',I,q⟩:=h;exact⟨σ',H',I.Ao,q⟩
 |ret u=>obtain⟨v,σ',H',I,r,q⟩:=h;exact⟨v,σ',H',I.Ao,r,q⟩
theorem PSs.nox{st:List Stmt}{t:TS}(h:PSs X.nox st t):PSs X st t:=fun pins s σ H D I hw =>
 wpAny_mono (h pins s σ H D (I.wish _) hw) (fun _ _ q=>q.Ao) fun _ _ z=>False.elim z
end
section
variable {X:Cx}{st:Stmt}{rest:List Stmt}{t u:TS}{e:Expr}{te:TE}{pos:Pos}
def Tw:TS:=fun D σ H=>D.nx σ H
def nH(t u:TS):TS:=fun D σ H=>t {D with nx:=u D} σ H
theorem aL:PSs X [] Tw:=fun _ _ σ H _ I h=>wpAny_execs_nil ⟨σ,H,I,h⟩
theorem ak(h1:PS X st t)(h2:PSs X rest u):PSs X (st::rest) (nH t u):=by
 intro pins s σ H D I h
 refine wpAny_execs_cons (thn (h1 pins s σ H {D with nx:=u D} I h) fun f s1 q=>?_)
 cases f with
 |next =>
  obtain⟨σ',H',I',q⟩:=q
  exact h2 pins s1 σ' H' D I' q
 |ret v=>exact q
 |brk=>exact q
 |cont=>exact q
theorem az(h1:PS X st t):PSs X [st] t:=by
 intro pins s σ H D I h
 refine wpAny_execs_cons (thn (h1 pins s σ H D I h) fun f s1 q=>?_)
 cases f with
 |next=>exact wpAny_execs_nil q
 |ret v=>exact q
 |brk=>exact q
 |cont=>exact q
def aef:TS:=fun D σ H=>D.ct σ H
theorem SX:PS X (.Continue pos) aef:=fun _ _ σ H _ I h=>wpAny_Continue ⟨σ,H,I,h⟩
theorem Inv.quiet{pins:List (Addr×Obj)}{σ:St}{H:Hp}{s:Shared}(I:Inv X pins σ H s):interactive X.env=false:=by simp[interactive,I.ok.kind]
def Oj(te:TE):TS:=fun D σ H=>te σ H fun _ H1=>D.nx σ H1
theorem iT(he:PE X e te)(hs:swapsWith e none pos.line X.env=pure false:=by rfl):PS X (.Expr e pos) (Oj te):=by
 intro pins s σ H D I h
 exact wpAny_Expr_any (thn (he pins s σ H _ I h) fun v s1 ⟨x,H1,I1,r1,q1⟩=>⟨σ,H1,I1,q1⟩) I.quiet hs
def Lq(te:TE):TS:=fun D σ H=>te σ H D.rt
theorem aC(he:PE X e te):PS X (.Return (some e) pos) (Lq te):=by
 intro pins s σ H D I h
 exact wpAny_Return_some (thn (he pins s σ H _ I h) fun v s1 ⟨x,H1,I1,r1,q1⟩=>⟨x,σ,H1,I1,r1,q1⟩)
def YZ(c:TT)(t u:TS):TS:=fun D σ H=>c σ H fun b H1=>if b=true then t D σ H1 else u D σ H1
theorem a_{c:Expr}{a b:List Stmt}{tc:TT}(hc:PT X c tc)(ha:PSs X a t)(hb:PSs X b u):PS X (.If c a b pos) (YZ tc t u):=by
 intro pins s σ H D I h
 refine wpAny_If (thn (hc pins s σ H _ I h) fun d s1 ⟨H1,I1,q1⟩=>?_)
 cases d with
 |true=>exact ha pins s1 σ H1 D I1 q1
 |false=>exact hb pins s1 σ H1 D I1 q1
end
abbrev TG:=V→St→Hp→(St→Hp→Prop)→Prop
abbrev TGs:=List V→St→Hp→(St→Hp→Prop)→Prop
def PG(X:Cx)(target:Expr)(t:TG):Prop :=
 ∀(pins:List (Addr×Obj)) (s:Shared) (σ:St) (H:Hp) (v:V) (u:Value) (Q:St→Hp→Prop),Inv X pins σ H s→RelV v u→t v σ H Q →
  wpAny (model X.prog X.w) X.A (assign target X.env u) (fun _ s'=>∃σ' H',Inv X pins σ' H' s'∧Q σ' H') X.xe s
def PGs(X:Cx)(ts:List Expr)(t:TGs):Prop :=
 ∀(pins:List (Addr×Obj)) (s:Shared) (σ:St) (H:Hp) (vs:List V) (us:List Value) (Q:St→Hp→Prop),Inv X pins σ H s→Vals vs us→t vs σ H Q →
  wpAny (model X.prog X.w) X.A (assignInOrder ((assignEach ts X.env).map (·.2)) us) (fun _ s'=>∃σ' H',Inv X pins σ' H' s'∧Q σ' H') X.xe s
section
variable {X:Cx}{pos:Pos}
def uK(i:Nat):TG:=fun v σ H Q=>Q (σ.set i (some v)) H
theorem bL{i:Nat}{x:Str}(hN:X.N.Nodup)(hi:X.N[i]?=some x)(hx:Loc X.env.scope x)(hf:X.fn x=true∨X.env.scope.names.lookup x=some .local:=by first | exact .inl rfl | exact .inr rfl | assumption):PG X (.Name x pos) (uK i):=by
 intro pins s σ H v u Q I r h
 exact wpAny_assign_Name (Tv I hN hi hx r (fun s' I'=>⟨_,H,I',h⟩) hf)
def adU:TGs:=fun vs σ H Q=>vs=[]∧Q σ H
def WL(t:TG)(u:TGs):TGs:=fun vs σ H Q=>∃v r,vs=v::r∧t v σ H fun σ' H'=>u r σ' H' Q
theorem QG:PGs X [] adU:=by
 intro pins s σ H vs us Q I r h
 obtain⟨e,h⟩:=h
 subst e
 cases r
 exact assignInOrder_nil ⟨σ,H,I,h⟩
theorem qd{e:Expr}{es:List Expr}{t:TG}{u:TGs}(h1:PG X e t)(h2:PGs X es u)
  (hs:(assignEach (e::es) X.env).map (·.2)=assign e X.env::(assignEach es X.env).map (·.2):=by rfl):PGs X (e::es) (WL t u):=by
 intro pins s σ H vs us Q I r h
 obtain⟨v,vr,e1,h⟩:=h
 subst e1
 cases r with
 |cons r rr =>
  rw[hs]
  refine assignInOrder_cons (thn (h1 pins s σ H _ _ _ I r h) fun _ s1 ⟨σ1,H1,I1,q1⟩=>?_)
  exact h2 pins s1 σ1 H1 _ _ Q I1 rr q1
def adW(K:PySem.W.Frag)(n:Nat)(t:TGs):TG:=fun v σ H Q=>∃a xs,v=.ref a∧SqT K H a xs∧xs.length=n∧t xs σ H Q
theorem VJ{es:List Expr}{k:Nat}{t:TGs}{n:Nat}(hc:X.calm=true)(h:PGs X es t)
  (hn:(assignEach es X.env).length=n:=by rfl) (hst:(assignEach es X.env).findIdx? (·.1)=none:=by rfl):PG X (.Tuple es k pos) (adW X.K n t):=by
 intro pins s σ H v u Q I r hw
 obtain⟨a,xs,e1,hq,hl,hw⟩:=hw
 subst e1
 cases r
 obtain⟨its,rv,ht,hz⟩:=I.tuple hq
 refine assign_Tuple_tuple (I.ok.hd hc) ht (by simp[hn,← hl,rv.length]) hst fun h' hx=>?_
 have I1:Inv X pins σ H {s with heap:=h'}:=I.kept (t':=s.toks) fun b o e=>hx b o (Nat.ne_of_lt (Heap.lt_size e)) e
 exact h pins _ σ H xs _ Q I1 (by simpa using rv) hw
def Wd(te:TE)(g:TG):TS:=fun D σ H=>te σ H fun x H1=>g x σ H1 D.nx
theorem bu{i:Nat}{x:Str}{e:Expr}{te:TE}{pos':Pos}(hN:X.N.Nodup)(hi:X.N[i]?=some x)(hx:Loc X.env.scope x)(he:PE X e te)(hs:swapsWith e (some (.Name x pos')) pos.line X.env=pure false:=by rfl)(hf:X.fn x=true∨X.env.scope.names.lookup x=some .local:=by first | exact .inl rfl | exact .inr rfl | assumption) :
  PS X (.Assign [.Name x pos'] e pos) (Wd te (uK i)):=by
 intro pins s σ H D I h
 refine wpAny_Assign_Name (thn (he pins s σ H _ I h) fun v s1 ⟨y,H1,I1,r1,q1⟩=>?_) hs
 exact Tv I1 hN hi hx r1 (fun s2 I2=>⟨_,H1,I2,q1⟩) hf
end
section
variable {X:Cx}{pos:Pos}
def aa5(c:TT)(tb:TS):TS:=fun D σ H=>∃W:Nat→St→Hp→Prop,(∃m,W m σ H)∧∀m σ H,W m σ H →
 c σ H fun b H1=>if b=true then ∃N:St→Hp→Prop,(∀σ' H',N σ' H'→∃m',m'<m∧W m' σ' H')∧tb {D with nx:=N,ct:=N,bk:=D.nx} σ H1 else D.nx σ H1
theorem aaF{c:Expr}{body:List Stmt}{tc:TT}{tb:TS}(hp:PassesOwn (model X.prog X.w) X.A X.env X.xe)(hc:PT X c tc)(hb:PSs X body tb):PS X (.While c body [] pos) (aa5 tc tb):=by
 intro pins s σ H D I h
 obtain⟨W,⟨m0,w0⟩,turn⟩:=h
 refine wpAny_While (codeAny_whileLoop (fun n s'=>∃σ' H',Inv X pins σ' H' s'∧W n σ' H') ?_ m0 ⟨σ,H,I,w0⟩)
 rintro n s1 ⟨σ1,H1,I1,w1⟩
 refine wpAny_passesOwn hp (thn (hc pins s1 σ1 H1 _ I1 (turn n σ1 H1 w1)) fun b s2 ⟨H2,I2,q2⟩=>?_)
 cases b with
 |true =>
  obtain⟨N,hN,q2⟩:=q2
  rw[if_pos rfl]
  refine wpAny_passesOwn hp (thn (hb pins s2 σ1 H2 _ I2 q2) fun f s3 q3=>?_)
  cases f with
  |next =>
   obtain⟨σ3,H3,I3,n3⟩:=q3
   obtain⟨m',hm,w3⟩:=hN σ3 H3 n3
   exact⟨m',hm,σ3,H3,I3,w3⟩
  |cont =>
   obtain⟨σ3,H3,I3,n3⟩:=q3
   obtain⟨m',hm,w3⟩:=hN σ3 H3 n3
   exact⟨m',hm,σ3,H3,I3,w3⟩
  |brk=>exact q3
  |ret v=>exact q3
 |false =>
  rw[if_neg Bool.false_ne_true]
  exact wpAny_execs_nil ⟨σ1,H2,I2,q2⟩
end
structure It where
 go:Nat→Hp→Prop
 yld:Nat→Hp→V→Hp→Prop
 stop:Nat→Hp→Prop
def sY(X:Cx)(pins:List (Addr×Obj))(H:Hp)(b:Addr):Prop :=
 H b=none∧b≠X.env.locals∧b∉X.fs∧(b∈X.ex∨X.s_0.heap.objs.size≤b)∧(∀x c,X.env.cells.lookup x=some c→c≠b)∧∀p∈X.pn++pins,p.1≠b
theorem Inv.X5{X:Cx}{pins:List (Addr×Obj)}{σ:St}{H H':Hp}{s:Shared}{b:Addr}(I:Inv X pins σ H s)(hb:s.heap.objs.size≤b)(hn:H' b=none):sY X pins H' b:=by
 refine⟨hn,Nat.ne_of_gt (Nat.lt_of_lt_of_le I.lt hb),I.aet hb,.inr (Nat.le_trans I.sz hb),fun x c e z=>?_,fun p hp z=>?_⟩
 ·obtain⟨v,q⟩:=I.cell x c e
  exact absurd (Nat.lt_of_lt_of_le q.lt (by rw[z];exact hb)) (Nat.lt_irrefl _)
 ·exact absurd (Nat.lt_of_lt_of_le (Heap.lt_size (I.pin p hp).1) (by rw[z];exact hb)) (Nat.lt_irrefl _)
structure Turn(P:Program)(w:World)(K:PySem.W.Frag)(tg:Expr)(J:It)(fp:List Addr)(it:Addr)(tn:Nat→Heap→Prop):Prop where
 mem:it∈fp
 obj:∀i h,tn i h→∀b∈fp,∃o,h.get? b=some o∧∀v,o.data≠.cell v
 keep:∀i h h',tn i h→(∀b∈fp,∀o,h.get? b=some o→h'.get? b=some o)→tn i h'
 item:∀(X:Cx),X.prog=P→X.w=w→X.K=K→X.calm=true→∀(i:Nat) (pins:List (Addr×Obj)) (s:Shared) (σ:St) (H:Hp) (E:Value→Shared→Prop),Inv X pins σ H s→(∀b∈fp,sY X pins H b)→tn i s.heap→J.go i H →
  wpAny (model P w) X.A (pyNext (.ref it)) (fun r s1=>∃u,r=some u ∧
   wpAny (model P w) X.A (letOwnedTupleGo tg (.ref it) u) (fun _ s2=>∃x H',Inv X pins σ H' s2∧RelV x u∧J.yld i H x H'∧tn (i+1) s2.heap∧∀b∈fp,H' b=none) E s1) E s
 done:∀(X:Cx),X.prog=P→X.w=w→X.K=K→X.calm=true→∀(i:Nat) (pins:List (Addr×Obj)) (s:Shared) (σ:St) (H:Hp) (E:Value→Shared→Prop),Inv X pins σ H s→(∀b∈fp,sY X pins H b)→tn i s.heap→J.stop i H →
  wpAny (model P w) X.A (pyNext (.ref it)) (fun r s1=>r=none∧Inv X pins σ H s1) E s
 self:∀(A:Around) (i:Nat) (s:Shared) (Q:Value→Shared→Prop) (E:Value→Shared→Prop),tn i s.heap→Q (.ref it) s→wpAny (model P w) A (pyIter (.ref it)) Q E s
abbrev TI:=St→Hp→(It→Hp→Prop)→Prop
def PIE(X:Cx)(pins:List (Addr×Obj))(σ:St)(tg:Expr)(R:It→Hp→Prop)(itv:Value)(s2:Shared):Prop :=
 ∃(it:Addr) (fp:List Addr) (tn:Nat→Heap→Prop) (J:It) (H':Hp),itv=.ref it∧Inv X pins σ H' s2∧Turn X.prog X.w X.K tg J fp it tn∧tn 0 s2.heap∧(∀b∈fp,sY X pins H' b)∧R J H'
def PI(X:Cx)(tg iter:Expr)(wi:TI):Prop :=
 ∀(pins:List (Addr×Obj)) (s:Shared) (σ:St) (H:Hp) (R:It→Hp→Prop),Inv X pins σ H s→wi σ H R →
  wpAny (model X.prog X.w) X.A (eval iter X.env) (fun v s1=>wpAny (model X.prog X.w) X.A (pyIter v) (PIE X pins σ tg R) X.xe s1) X.xe s
theorem ZQ{M:Model}{A:Around}{E:Value→Shared→Prop}{s:Shared}{tg:Expr}{it:Addr}{u:Value}{o:Obj}{n:String}{vs:Array Value}{Q:Unit→Shared→Prop}(ho:s.heap.get? it=some o)(hc:o.cls=.type n)(hd:o.data=.fields vs)
  (hn:["enumerate","zip","dict_itemiterator","dict_reverseitemiterator","odict_iterator","itertools.zip_longest","itertools.pairwise"].contains n=false) (hQ:Q () s):wpAny M A (letOwnedTupleGo tg (.ref it) u) Q E s:=by
 unfold letOwnedTupleGo
 cases tg<;>first
  |exact wpAny_pure hQ
  |(cases u<;>first
    |exact wpAny_pure hQ
    |(refine wpAny_bind (wpAny_load ho ?_); rw[hc,hd]; show wpAny M A (if (["enumerate","zip","dict_itemiterator","dict_reverseitemiterator","odict_iterator","itertools.zip_longest","itertools.pairwise"].contains n&&vs[0]?==some (rawInt _))=true then _ else _) Q E s; rw[if_neg (by intro h;rw[hn,Bool.false_and]at h;cases h)]; exact wpAny_pure hQ))
def Itl(K:PySem.W.Frag)(a:Addr):It :=
 ⟨fun i H=>∃xs x,SqL K H a xs∧xs[i]?=some x,fun i H x H'=>H'=H∧∀xs,SqL K H a xs→xs[i]?=some x,fun i H=>∃xs,SqL K H a xs∧xs.length≤i⟩
def Itr(lo:Int)(n:Nat):It:=⟨fun i _=>i<n,fun i H x H'=>H'=H∧x=.int (lo+i),fun i _=>n≤i⟩
theorem Ox{P:Program}{w:World}{K:PySem.W.Frag}{tg:Expr}(a it:Addr):Turn P w K tg (Itl K a) [it] it (fun i h=>h.IsListIter it a i) where
 mem:=by simp
 obj:=fun i h st b hb=>by
  have e:b=it:=by simpa using hb
  subst e
  obtain⟨o,e,c,d⟩:=st
  exact⟨o,e,fun v z=>by rw[d]at z;cases z⟩
 keep:=fun i h h' st k=>st.at fun o e=>k it (by simp) o e
 item:=by
  intro X hP hw hK hc i pins s σ H E I hf st hg
  subst hP hw hK
  obtain⟨xs,x,hq,hx⟩:=hg
  obtain⟨its,rv,p,hz⟩:=I.list hq
  obtain⟨u,hu,ru⟩:=rv.get hx
  obtain⟨f0,f1,f2,f3,f4,f5⟩:=hf it (by simp)
  refine wpAny_pyNext_list_item st p.isList (x:=u) (by simpa using hu) fun h' st' sb=>?_
  have I1:Inv X pins σ H {s with heap:=h'}:=I.turned (t':=s.toks) (fun b o hb e=>(sb.2 b hb).trans e) f0 f1 f3 f4 f5
  obtain⟨o,e,c,d⟩:=id st'
  exact⟨u,rfl,ZQ (s:={s with heap:=h'}) e c d (by decide) ⟨x,H,I1,ru,⟨rfl,fun ys hy=>by rw[I.aae hy hq];exact hx⟩,st',fun b hb=>(hf b hb).1⟩⟩
 done:=by
  intro X hP hw hK hc i pins s σ H E I hf st hg
  subst hP hw hK
  obtain⟨xs,hq,hx⟩:=hg
  obtain⟨its,rv,p,hz⟩:=I.list hq
  obtain⟨f0,f1,f2,f3,f4,f5⟩:=hf it (by simp)
  have hl:=rv.length
  exact wpAny_pyNext_list_end (I.ok.hd hc) st p.isList (by simp;omega) fun h' eb=>⟨rfl,I.turned (t':=s.toks) (fun b o hb e=>eb b o hb e) f0 f1 f3 f4 f5⟩
 self:=fun _ _ _ _ _ st h=>wpAny_pyIter_listiter st h
theorem Wi{P:Program}{w:World}{K:PySem.W.Frag}{tg:Expr}(it:Addr)(lo:Int)(n:Nat):Turn P w K tg (Itr lo n) [it] it (fun i h=>IsRangeIter h it (lo+(i:Nat) * 1) ((n:Int) - (i:Nat)) 1) where
 mem:=by simp
 obj:=fun i h st b hb=>by
  have e:b=it:=by simpa using hb
  subst e
  exact⟨_,st,fun v z=>by
   have z':Data.fields _=Data.cell v:=z
   cases z'⟩
 keep:=fun i h h' st k=>k it (by simp) _ st
 item:=by
  intro X hP hw hK hc i pins s σ H E I hf st hg
  subst hP hw hK
  obtain⟨f0,f1,f2,f3,f4,f5⟩:=hf it (by simp)
  have W:=Walks.range (prog:=X.prog) (w:=X.w) (I.ok.hd hc) it lo 1 n
  refine W.item i s _ _ hg st fun v h' tk hv st' kk=>?_
  obtain⟨t,rfl⟩:=hv
  have I1:Inv X pins σ H {s with heap:=h',toks:=tk}:=I.turned (fun b o hb e=>kk b o (by simpa using hb) e) f0 f1 f3 f4 f5
  refine⟨_,rfl,ZQ (s:={s with heap:=h',toks:=tk}) (n:="range_iterator") st' rfl rfl (by decide) ⟨.int (lo+i),H,I1,⟨t,?_⟩,⟨rfl,rfl⟩,st',fun b hb=>(hf b hb).1⟩⟩
  rw[Int.mul_one]
 done:=by
  intro X hP hw hK hc i pins s σ H E I hf st hg
  subst hP hw hK
  obtain⟨f0,f1,f2,f3,f4,f5⟩:=hf it (by simp)
  exact wpAny_pyNext_range_end (I.ok.hd hc) st (by have:n≤i:=hg;omega) fun h' eb=>⟨rfl,I.turned (t':=s.toks) (fun b o hb e=>eb b o hb e) f0 f1 f3 f4 f5⟩
 self:=fun _ _ _ _ _ st h=>wpAny_pyIter_rangeiter st h
end L2
namespace L2
open PySem PySem.Spec PyProof.Rows
section
variable {X:Cx}{tg:Expr}
def Nz(K:PySem.W.Frag)(tl:TE):TI:=fun σ H R=>tl σ H fun x H1=>∃a,x=.ref a∧(∃xs,SqL K H1 a xs)∧R (Itl K a) H1
theorem cY{l:Expr}{tl:TE}(hl:PE X l tl):PI X tg l (Nz X.K tl):=by
 intro pins s σ H R I h
 refine thn (hl pins s σ H _ I h) fun v s1 ⟨x,H1,I1,r1,q1⟩=>?_
 obtain⟨a,e,⟨xs,hq⟩,q⟩:=q1
 subst e
 cases r1
 obtain⟨its,rv,p,hz⟩:=I1.list hq
 refine wpAny_pyIter_list p.isList ?_
 refine⟨s1.heap.objs.size,[s1.heap.objs.size],_,_,H1,rfl,I1.kept (t':=s1.toks) fun b o e=>Heap.get?_push_of_some _ e,Ox a _,⟨_,Heap.get?_push_size _ rfl,rfl,rfl⟩,fun b hb=>?_,q⟩
 have e:b=s1.heap.objs.size:=by simpa using hb
 subst e
 exact I1.X5 (Nat.le_refl _) (I1.hok.fresh (Nat.le_refl _))
theorem S9{pins:List (Addr×Obj)}{σ:St}{H:Hp}{s:Shared}{R:It→Hp→Prop}{E:Value→Shared→Prop}{lo hi:Int}{t u v:Tok}{tk:Nat}(I:Inv X pins σ H s)(h1:-(2 ^ 62)≤lo)(h2:lo<2 ^ 62)(h3:-(2 ^ 62)≤hi)(h4:hi<2 ^ 62)
  (q:R (Itr lo (hi - lo).toNat) H):wpAny (model X.prog X.w) X.A (pyIter (.ref s.heap.objs.size)) (PIE X pins σ tg R) E {s with heap:=s.heap.push {cls:=.type "range",data:=.fields #[.int lo t,.int hi u,.int 1 v]},toks:=tk}:=by
 refine wpAny_pyIter_range (IsRange.new ..) (small_one h1 h2 h3 h4) ?_
 have I1:Inv X pins σ H {s with heap:=s.heap.push {cls:=.type "range",data:=.fields #[.int lo t,.int hi u,.int 1 v]},toks:=tk}:=I.kept fun b o e=>Heap.get?_push_of_some _ e
 refine⟨(s.heap.push {cls:=.type "range",data:=.fields #[.int lo t,.int hi u,.int 1 v]}).objs.size,[(s.heap.push {cls:=.type "range",data:=.fields #[.int lo t,.int hi u,.int 1 v]}).objs.size],_,_,H,rfl,
  I1.kept (t':=tk) fun b o e=>Heap.get?_push_of_some _ e,Wi _ lo (hi - lo).toNat,?_,fun b hb=>?_,q⟩
 ·have e1:lo+((0:Nat):Int) * 1=lo:=by simp
  have e2:(((hi - lo).toNat:Nat):Int) - ((0:Nat):Int)=Builtin.Range.rangeSize lo hi 1:=by rw[rangeSize_one];split<;>omega
  show IsRangeIter _ _ (lo+((0:Nat):Int) * 1) ((((hi - lo).toNat:Nat):Int) - ((0:Nat):Int)) 1
  rw[e1,e2]
  exact Heap.get?_push_size _ rfl
 ·have e:b=(s.heap.push {cls:=.type "range",data:=.fields #[.int lo t,.int hi u,.int 1 v]}).objs.size:=by simpa using hb
  subst e
  exact I1.X5 (Nat.le_refl _) (I1.hok.fresh (Nat.le_refl _))
def ZV(ta:TA):TI:=fun σ H R=>ta σ H fun vs H1=>∃j:Int,vs=[.int j]∧-(2 ^ 62)≤j∧j<2 ^ 62∧R (Itr 0 j.toNat) H1
def acq(ta:TA):TI:=fun σ H R=>ta σ H fun vs H1=>∃i j:Int,vs=[.int i,.int j]∧(-(2 ^ 62)≤i∧i<2 ^ 62∧-(2 ^ 62)≤j∧j<2 ^ 62)∧R (Itr i (j - i).toNat) H1
theorem N7{a:Expr}{ta:TA}{p pos:Pos}(hg:Gl X "range")(hm:X.mg "range" = none)(ha:PA X [a] ta)(hs:starEach [a] X.env=[(false,eval a X.env)]:=by rfl):PI X tg (.Call (.Name "range" p) [a] [] pos) (ZV ta):=by
 intro pins s σ H R I h
 refine Call_ (CV I hg hm boot_range (PyProof.Rows.callWith_type1 (thn (ha pos pins s σ H _ I h) fun us s1 ⟨vs,H1,I1,r1,q1⟩=>?_) hs rfl))
 obtain⟨j,e,q1,q2,q⟩:=q1
 subst e
 cases r1 with
 |cons r rr =>
  cases rr
  obtain⟨t,rfl⟩:=r
  exact call_range_1 (S9 I1 (by omega) (by omega) q1 q2 (by simpa using q))
theorem N8{a b:Expr}{ta:TA}{p pos:Pos}(hg:Gl X "range")(hm:X.mg "range" = none)(ha:PA X [a,b] ta)(hs:starEach [a,b] X.env=[(false,eval a X.env),(false,eval b X.env)]:=by rfl)(hs2:starEach [b] X.env=[(false,eval b X.env)]:=by rfl) :
  PI X tg (.Call (.Name "range" p) [a,b] [] pos) (acq ta):=by
 intro pins s σ H R I h
 refine Call_ (CV I hg hm boot_range (PyProof.Rows.callWith_type1 (thn (ha pos pins s σ H _ I h) fun us s1 ⟨vs,H1,I1,r1,q1⟩=>?_) (by rw[hs,hs2]) (by rw[hs2];rfl)))
 obtain⟨i,j,e,⟨q1,q2,q3,q4⟩,q⟩:=q1
 subst e
 cases r1 with
 |cons r rr =>
  cases rr with
  |cons r' rr =>
   cases rr
   obtain⟨t,rfl⟩:=r
   obtain⟨t',rfl⟩:=r'
   exact call_range_2 (S9 I1 q1 q2 q3 q4 q)
def aa2(wi:TI)(g:TG)(tb:TS):TS:=fun D σ H=>wi σ H fun J H1=>∃W:Nat→Nat→St→Hp→Prop,(∃m,W 0 m σ H1)∧∀i m σ H,W i m σ H →
 (J.stop i H∧D.nx σ H)∨(J.go i H∧∃N:St→Hp→Prop,(∀σ' H',N σ' H'→∃m',m'<m∧W (i+1) m' σ' H')∧∀x H',J.yld i H x H'→g x σ H' fun σ2 H2=>tb {D with nx:=N,ct:=N,bk:=D.nx} σ2 H2)
def Kz(fp:List Addr)(h:Heap):List (Addr×Obj):=fp.filterMap fun b=>(h.get? b).map fun o=>(b,o)
theorem uL{fp:List Addr}{h:Heap}{b:Addr}{o:Obj}(hb:b∈fp)(e:h.get? b=some o):(b,o)∈Kz fp h:=List.mem_filterMap.mpr ⟨b,hb,by rw[e];rfl⟩
theorem Yq{fp:List Addr}{h:Heap}{p:Addr×Obj}(hp:p∈Kz fp h):p.1∈fp∧h.get? p.1=some p.2:=by
 obtain⟨b,hb,e⟩:=List.mem_filterMap.mp hp
 cases q:h.get? b with
 |none=>rw[q]at e;cases e
 |some o =>
  rw[q]at e
  have e':(b,o)=p:=Option.some.inj e
  subst e'
  exact⟨hb,q⟩
theorem Inv.pinned{pins:List (Addr×Obj)}{σ:St}{H:Hp}{s:Shared}{fp:List Addr}(I:Inv X pins σ H s)(hf:∀b∈fp,sY X pins H b)(ho:∀b∈fp,∃o,s.heap.get? b=some o∧∀v,o.data≠.cell v):Inv X (pins++Kz fp s.heap) σ H s :=
 I.W8 fun p hp=>(List.mem_append.mp hp).elim (fun z=>I.pin p (List.mem_append_right _ z)) fun z=>by
  obtain⟨hb,e⟩:=Yq z
  obtain⟨f0,f1,f2,_⟩:=hf p.1 hb
  obtain⟨o,e',d⟩:=ho p.1 hb
  rw[e]at e';cases e'
  exact⟨e,f0,f1,f2,d⟩
theorem Inv.xQ{pins pl:List (Addr×Obj)}{σ:St}{H:Hp}{s:Shared}(I:Inv X (pins++pl) σ H s):Inv X pins σ H s:=I.W8 fun p hp=>I.pin p (List.mem_append_right _ (List.mem_append_left _ hp))
theorem tU{iter:Expr}{body:List Stmt}{wi:TI}{g:TG}{tb:TS}{pos:Pos}(hp:PassesOwn (model X.prog X.w) X.A X.env X.xe)(hc:X.calm=true)(hi:PI X tg iter wi)(hg:PG X tg g)(hb:PSs X body tb)
  (hs:∀x,foldedSetIterable iter X.env x=pure x:=by intro _;rfl):PS X (.For tg iter body [] pos) (aa2 wi g tb):=by
 intro pins s σ H D I h
 refine wpAny_For (thn (hi pins s σ H _ I h) fun v s1 h1=>thn h1 fun itv s2 h2=>?_) hs
 obtain⟨it,fp,tn,J,H2,e,I2,T,st2,f2,W,⟨m0,w0⟩,turn⟩:=h2
 subst e
 have stat:∀{H':Hp},(∀b∈fp,H' b=none)→∀b∈fp,sY X pins H' b:=fun hn b hb=>⟨hn b hb,(f2 b hb).2⟩
 refine codeAny_forLoop_any (fun n s'=>∃i σ' H',Inv X pins σ' H' s'∧tn i s'.heap∧(∀b∈fp,H' b=none)∧W i n σ' H') ?_ m0 ⟨0,σ,H2,I2,st2,fun b hb=>(f2 b hb).1,w0⟩
 rintro n s3 ⟨i,σ3,H3,I3,st3,fr3,w3⟩
 rcases turn i n σ3 H3 w3 with ⟨stop,qn⟩|⟨go,N,hN,step⟩
 ·refine wpAny_passesOwn hp (thn (T.done X rfl rfl rfl hc i pins s3 σ3 H3 X.xe I3 (stat fr3) st3 stop) fun r s4 ⟨hr,I4⟩=>?_)
  subst hr
  exact wpAny_execs_nil ⟨σ3,H3,I4,qn⟩
 ·refine wpAny_passesOwn hp (thn (T.item X rfl rfl rfl hc i pins s3 σ3 H3 X.xe I3 (stat fr3) st3 go) fun r s4 ⟨u,hr,h4⟩=>?_)
  subst hr
  refine wpAny_passesOwn hp (thn h4 fun _ s5 ⟨x,H5,I5,r5,y5,st5,fr5⟩=>?_)
  have I5':=I5.pinned (stat fr5) (T.obj _ _ st5)
  refine wpAny_passesOwn hp (thn (hg _ s5 σ3 H5 x u _ I5' r5 (step x H5 y5)) fun _ s6 ⟨σ6,H6,I6,q6⟩=>?_)
  refine wpAny_passesOwn hp (thn (hb _ s6 σ6 H6 _ I6 q6) fun f s7 q7=>?_)
  have again:∀{σ7:St} {H7:Hp},Inv X (pins++Kz fp s5.heap) σ7 H7 s7→N σ7 H7→∃m,m<n∧∃i σ' H',Inv X pins σ' H' s7∧tn i s7.heap∧(∀b∈fp,H' b=none)∧W i m σ' H':=fun{σ7 H7} I7 n7=>by
   obtain⟨m',hm,w7⟩:=hN σ7 H7 n7
   refine⟨m',hm,i+1,σ7,H7,I7.xQ,T.keep _ _ _ st5 fun b hb o e=>(I7.pin (b,o) (List.mem_append_right _ (List.mem_append_right _ (uL hb e)))).1,fun b hb=>?_,w7⟩
   obtain⟨o,e,d⟩:=T.obj _ _ st5 b hb
   exact(I7.pin (b,o) (List.mem_append_right _ (List.mem_append_right _ (uL hb e)))).2.1
  cases f with
  |next=>obtain⟨σ7,H7,I7,n7⟩:=q7;exact again I7 n7
  |cont=>obtain⟨σ7,H7,I7,n7⟩:=q7;exact again I7 n7
  |brk=>obtain⟨σ7,H7,I7,q7⟩:=q7;exact⟨σ7,H7,I7.xQ,q7⟩
  |ret v=>obtain⟨x7,σ7,H7,I7,r7,q7⟩:=q7;exact⟨x7,σ7,H7,I7.xQ,r7,q7⟩
end
theorem JX{K:PySem.W.Frag}{a:Addr}{xs:List V}{g:TG}{tb:TS}{D:Ends}{σ:St}{H:Hp}(Pv:Nat→St→Hp→Prop)(h0:Pv 0 σ H)(hl:∀i σ H,i≤xs.length→Pv i σ H→SqL K H a xs)
  (hs:∀i x σ H,xs[i]?=some x→Pv i σ H→g x σ H fun σ2 H2=>tb {D with nx:=Pv (i+1),ct:=Pv (i+1),bk:=D.nx} σ2 H2) (hd:∀σ H,Pv xs.length σ H→D.nx σ H) :
  ∃W:Nat→Nat→St→Hp→Prop,(∃m,W 0 m σ H)∧∀i m σ H,W i m σ H →
   ((Itl K a).stop i H∧D.nx σ H)∨((Itl K a).go i H∧∃N:St→Hp→Prop,(∀σ' H',N σ' H'→∃m',m'<m∧W (i+1) m' σ' H')∧∀x H',(Itl K a).yld i H x H'→g x σ H' fun σ2 H2=>tb {D with nx:=N,ct:=N,bk:=D.nx} σ2 H2):=by
 refine⟨fun i m σ H=>m=xs.length - i∧i≤xs.length∧Pv i σ H,⟨xs.length,by simp,Nat.zero_le _,h0⟩,?_⟩
 rintro i m σ H ⟨rfl,hi,p⟩
 have q:=hl i σ H hi p
 by_cases hlt:i<xs.length
 ·refine .inr ⟨⟨xs,xs[i],q,by simp[hlt]⟩,Pv (i+1),fun σ' H' p'=>⟨xs.length - (i+1),by omega,rfl,hlt,p'⟩,fun x H' y=>?_⟩
  obtain⟨e,y⟩:=y
  subst e
  exact hs i x σ _ (y xs q) p
 ·have e:i=xs.length:=by omega
  subst e
  exact .inl ⟨⟨xs,q,Nat.le_refl _⟩,hd σ H p⟩
theorem X4{lo:Int}{n:Nat}{g:TG}{tb:TS}{D:Ends}{σ:St}{H:Hp}(Pv:Nat→St→Hp→Prop)(h0:Pv 0 σ H)
  (hs:∀i σ H,i<n→Pv i σ H→g (.int (lo+i)) σ H fun σ2 H2=>tb {D with nx:=Pv (i+1),ct:=Pv (i+1),bk:=D.nx} σ2 H2) (hd:∀σ H,Pv n σ H→D.nx σ H) :
  ∃W:Nat→Nat→St→Hp→Prop,(∃m,W 0 m σ H)∧∀i m σ H,W i m σ H →
   ((Itr lo n).stop i H∧D.nx σ H)∨((Itr lo n).go i H∧∃N:St→Hp→Prop,(∀σ' H',N σ' H'→∃m',m'<m∧W (i+1) m' σ' H')∧∀x H',(Itr lo n).yld i H x H'→g x σ H' fun σ2 H2=>tb {D with nx:=N,ct:=N,bk:=D.nx} σ2 H2):=by
 refine⟨fun i m σ H=>m=n - i∧i≤n∧Pv i σ H,⟨n,by simp,Nat.zero_le _,h0⟩,?_⟩
 rintro i m σ H ⟨rfl,hi,p⟩
 by_cases hlt:i<n
 ·refine .inr ⟨hlt,Pv (i+1),fun σ' H' p'=>⟨n - (i+1),by omega,rfl,hlt,p'⟩,fun x H' y=>?_⟩
  obtain⟨e,y⟩:=y
  subst e y
  exact hs i σ _ hlt p
 ·have e:i=n:=by omega
  subst e
  exact .inl ⟨Nat.le_refl _,hd σ H p⟩
end L2
namespace L2
open PySem PySem.Spec PyProof.Rows
abbrev R2:=V→V→Hp→VK→Prop
def OpR(X:Cx)(f:Value→Value→Sem Value)(r:R2):Prop :=
 ∀(pins:List (Addr×Obj)) (s:Shared) (σ:St) (H:Hp) (x y:V) (v u:Value) (Q:VK),Inv X pins σ H s→RelV x v→RelV y u→r x y H Q →
  wpAny (model X.prog X.w) X.A (f v u) (EP X pins σ Q) X.xe s
def UnR(X:Cx)(f:Value→Sem Value)(r:V→Hp→VK→Prop):Prop :=
 ∀(pins:List (Addr×Obj)) (s:Shared) (σ:St) (H:Hp) (x:V) (v:Value) (Q:VK),Inv X pins σ H s→RelV x v→r x H Q →
  wpAny (model X.prog X.w) X.A (f v) (EP X pins σ Q) X.xe s
def yI(X:Cx)(f:Value)(r:List V→Hp→VK→Prop):Prop :=
 ∀(pins:List (Addr×Obj)) (s:Shared) (σ:St) (H:Hp) (xs:List V) (us:List Value) (Q:VK),Inv X pins σ H s→Vals xs us→r xs H Q →
  wpAny (model X.prog X.w) X.A (call f us) (EP X pins σ Q) X.xe s
def tOp(r:R2)(ta tb:TE):TE:=fun σ H Q=>ta σ H fun x H1=>tb σ H1 fun y H2=>r x y H2 Q
def tUn(r:V→Hp→VK→Prop)(ta:TE):TE:=fun σ H Q=>ta σ H fun x H1=>r x H1 Q
def rI(C:Int→Int→Prop)(g:Int→Int→V):R2:=fun x y H Q=>∃i j,x=.int i∧y=.int j∧C i j∧Q (g i j) H
def rI0(g:Int→Int→V):R2:=fun x y H Q=>∃i j,x=.int i∧y=.int j∧Q (g i j) H
def rU(g:Int→V):V→Hp→VK→Prop:=fun x H Q=>∃i,x=.int i∧Q (g i) H
section
variable {X:Cx}{a b c:Expr}{ta tb tc:TE}{pos:Pos}
theorem acL(ha:PE X a ta)(hb:PE X b tb){pins:List (Addr×Obj)}{s:Shared}{σ:St}{H:Hp}{R:V→V→Hp→Prop}(I:Inv X pins σ H s)
  (h:ta σ H fun x H1=>tb σ H1 fun y H2=>R x y H2) {Q:Value→Shared→Prop} {f:Value→Value→Sem Value}
  (hf:∀v u s2 x y H2,Inv X pins σ H2 s2→RelV x v→RelV y u→R x y H2→wpAny (model X.prog X.w) X.A (f v u) Q X.xe s2) :
  wpAny (model X.prog X.w) X.A (eval a X.env) (fun v s₁=>wpAny (model X.prog X.w) X.A (eval b X.env) (fun u s₂=>wpAny (model X.prog X.w) X.A (f v u) Q X.xe s₂) X.xe s₁) X.xe s:=by
 refine thn (ha pins s σ H _ I h) fun v s1 ⟨x,H1,I1,r1,q1⟩=>?_
 refine thn (hb pins s1 σ H1 _ I1 q1) fun u s2 ⟨y,H2,I2,r2,q2⟩=>?_
 exact hf v u s2 x y H2 I2 r1 r2 q2
theorem jw{op:Operator}{r:R2}(ho:OpR X (binaryOp op) r)(ha:PE X a ta)(hb:PE X b tb):PE X (.BinOp a op b pos) (tOp r ta tb):=by
 intro pins s σ H Q I h
 exact wpAny_BinOp (acL ha hb I h fun v u s2 x y H2 I2 rx ry q=>ho pins s2 σ H2 x y v u Q I2 rx ry q)
theorem acx{op:UnaryOp}{r:V→Hp→VK→Prop}(ho:UnR X (unaryOp op) r)(ha:PE X a ta):PE X (.UnaryOp op a pos) (tUn r ta):=by
 intro pins s σ H Q I h
 exact UnaryOp_ (thn (ha pins s σ H _ I h) fun v s1 ⟨x,H1,I1,r1,q1⟩=>ho pins s1 σ H1 x v Q I1 r1 q1)
theorem opI{f:Value→Value→Sem Value}{C:Int→Int→Prop}{g:Int→Int→Int}
  (rule:∀(i j:Int) (t u:Tok) (s:Shared) (Q:Value→Shared→Prop) (E:Value→Shared→Prop),C i j→Q (.int (g i j) s.toks) {s with toks:=s.toks+1}→wpAny (model X.prog X.w) X.A (f (.int i t) (.int j u)) Q E s) :
  OpR X f (rI C fun i j=>.int (g i j)):=by
 intro pins s σ H x y v u Q I rx ry h
 obtain⟨i,j,rfl,rfl,hc,q⟩:=h
 obtain⟨t,rfl⟩:=rx
 obtain⟨t',rfl⟩:=ry
 exact rule i j t t' s _ _ hc ⟨.int (g i j),H,I.tok _,⟨_,rfl⟩,q⟩
theorem aeu{f:Value→Value→Sem Value}{g:Int→Int→Int}
  (rule:∀(i j:Int) (t u:Tok) (s:Shared) (Q:Value→Shared→Prop) (E:Value→Shared→Prop),Q (.int (g i j) s.toks) {s with toks:=s.toks+1}→wpAny (model X.prog X.w) X.A (f (.int i t) (.int j u)) Q E s) :
  OpR X f (rI0 fun i j=>.int (g i j)):=by
 intro pins s σ H x y v u Q I rx ry h
 obtain⟨i,j,rfl,rfl,q⟩:=h
 obtain⟨t,rfl⟩:=rx
 obtain⟨t',rfl⟩:=ry
 exact rule i j t t' s _ _ ⟨.int (g i j),H,I.tok _,⟨_,rfl⟩,q⟩
theorem abT{f:Value→Value→Sem Value}{g:Int→Int→Bool}
  (rule:∀(i j:Int) (t u:Tok) (s:Shared) (Q:Value→Shared→Prop) (E:Value→Shared→Prop),Q (.bool (g i j)) s→wpAny (model X.prog X.w) X.A (f (.int i t) (.int j u)) Q E s) :
  OpR X f (rI0 fun i j=>.bl (g i j)):=by
 intro pins s σ H x y v u Q I rx ry h
 obtain⟨i,j,rfl,rfl,q⟩:=h
 obtain⟨t,rfl⟩:=rx
 obtain⟨t',rfl⟩:=ry
 exact rule i j t t' s _ _ ⟨.bl (g i j),H,I,rfl,q⟩
def aej(i j:Int):Prop:=0<j∧j<1073741824
theorem z9:OpR X (binaryOp .Add) (rI0 fun i j=>.int (i+j)):=aeu fun _ _ _ _ _ _ _ q=>add_int q
theorem Qz:OpR X (binaryOp .FloorDiv) (rI aej fun i j=>.int (i / j)):=opI fun i j _ _ _ _ _ hc q=>by
 have h1:(0:Int)<j:=hc.1
 have h2:j<1073741824:=hc.2
 exact floordiv_int (by omega) (by rw[Int.fdiv_eq_ediv_of_nonneg i (by omega)];exact q) (.inl (PyProof.noPylong_small (by omega)))
theorem adl:OpR X (binaryOp .Mod) (rI (fun _ j=>0<j) fun i j=>.int (i % j)):=opI fun i j _ _ _ _ _ hc q=>by
 have h1:(0:Int)<j:=hc
 exact mod_int' (by omega) (by rw[Int.fmod_eq_emod_of_nonneg i (by omega)];exact q)
theorem unI{f:Value→Sem Value}{g:Int→Int}
  (rule:∀(i:Int) (t:Tok) (s:Shared) (Q:Value→Shared→Prop) (E:Value→Shared→Prop),Q (.int (g i) s.toks) {s with toks:=s.toks+1}→wpAny (model X.prog X.w) X.A (f (.int i t)) Q E s) :
  UnR X f (rU fun i=>.int (g i)):=by
 intro pins s σ H x v Q I rx h
 obtain⟨i,rfl,q⟩:=h
 obtain⟨t,rfl⟩:=rx
 exact rule i t s _ _ ⟨.int (g i),H,I.tok _,⟨_,rfl⟩,q⟩
theorem aa_:UnR X (unaryOp .USub) (rU fun i=>.int (-i)):=unI fun _ _ _ _ _ q=>neg_int q
end
def ab4:V→V→Bool
 |.non,.non=>true | .non,.int _=>true | .int _,.non=>true | .non,.bl _=>true | .bl _,.non=>true | .non,.str _=>true | .str _,.non=>true
 |.int _,.int _=>true | .bl _,.bl _=>true | .str _,.str _=>true | .byt _,.byt _=>true
 |.int _,.str _=>true | .str _,.int _=>true | .bl _,.str _=>true | .str _,.bl _=>true
 |_,_=>false
def rEq:R2:=fun x y H Q=>ab4 x y=true∧Q (.bl (decide (x=y))) H
def rNe:R2:=fun x y H Q=>ab4 x y=true∧Q (.bl (!decide (x=y))) H
theorem Ws{i j:Int}:decide (V.int i=V.int j)=(i==j):=by
 rw[Bool.eq_iff_iff]
 simp
theorem Zo{i j:Bool}:decide (V.bl i=V.bl j)=(i==j):=by
 rw[Bool.eq_iff_iff]
 simp
theorem Wt{i j:Str}:decide (V.str i=V.str j)=(i==j):=by
 rw[Bool.eq_iff_iff]
 simp
theorem Wq{i j:Array UInt8}:decide (V.byt i=V.byt j)=(i.toList==j.toList):=by
 rw[Bool.eq_iff_iff]
 cases i
 cases j
 simp
section
variable {X:Cx}{a b c:Expr}{ta tb tc:TE}{pos:Pos}
theorem dG{pins:List (Addr×Obj)}{σ:St}{H:Hp}{s:Shared}{Q:VK}{k k':Bool}(I:Inv X pins σ H s)(q:Q (.bl k) H)(e:k=k'):EP X pins σ Q (.bool k') s:=by
 subst e
 exact⟨.bl k,H,I,rfl,q⟩
theorem dm:OpR X (compareOp .Eq) rEq:=by
 intro pins s σ H x y v u Q I rx ry h
 obtain⟨hs,q⟩:=h
 cases x with
 |non =>
  cases rx
  cases y with
  |non=>cases ry;exact PySem.EqNone.eq_none_none (dG I q (by simp))
  |bl j=>cases ry;exact PySem.EqNone.eq_none_bool (dG I q (by simp))
  |int j=>obtain⟨t',rfl⟩:=ry;exact PySem.EqNone.eq_none_int (dG I q (by simp))
  |str j=>obtain⟨t',rfl⟩:=ry;exact PySem.EqNone.eq_none_str (dG I q (by simp))
  |_=>exact absurd (show false=true from hs) Bool.false_ne_true
 |bl i =>
  cases rx
  cases y with
  |non=>cases ry;exact PySem.EqNone.eq_bool_none (dG I q (by simp))
  |bl j=>cases ry;exact eq_bool (dG I q Zo)
  |str j=>obtain⟨t',rfl⟩:=ry;exact PySem.EqMixed.eq_bool_str (dG I q (by simp))
  |_=>exact absurd (show false=true from hs) Bool.false_ne_true
 |int i =>
  obtain⟨t,rfl⟩:=rx
  cases y with
  |non=>cases ry;exact PySem.EqNone.eq_int_none (dG I q (by simp))
  |int j=>obtain⟨t',rfl⟩:=ry;exact eq_int (dG I q Ws)
  |str j=>obtain⟨t',rfl⟩:=ry;exact PySem.EqMixed.eq_int_str (dG I q (by simp))
  |_=>exact absurd (show false=true from hs) Bool.false_ne_true
 |str i =>
  obtain⟨t,rfl⟩:=rx
  cases y with
  |non=>cases ry;exact PySem.EqNone.eq_str_none (dG I q (by simp))
  |bl j=>cases ry;exact PySem.EqMixed.eq_str_bool (dG I q (by simp))
  |int j=>obtain⟨t',rfl⟩:=ry;exact PySem.EqMixed.eq_str_int (dG I q (by simp))
  |str j=>obtain⟨t',rfl⟩:=ry;exact eq_str (dG I q Wt)
  |_=>exact absurd (show false=true from hs) Bool.false_ne_true
 |byt i =>
  obtain⟨t,rfl⟩:=rx
  cases y with
  |byt j=>obtain⟨t',rfl⟩:=ry;exact PySem.W.eq_bytes (dG I q Wq)
  |_=>exact absurd (show false=true from hs) Bool.false_ne_true
 |_=>cases y<;>exact absurd (show false=true from hs) Bool.false_ne_true
theorem ju:OpR X (compareOp .NotEq) rNe:=by
 intro pins s σ H x y v u Q I rx ry h
 obtain⟨hs,q⟩:=h
 cases x with
 |non =>
  cases rx
  cases y with
  |non=>cases ry;exact PySem.EqNone.ne_none_none (dG I q (by simp))
  |bl j=>cases ry;exact PySem.EqNone.ne_none_bool (dG I q (by simp))
  |int j=>obtain⟨t',rfl⟩:=ry;exact PySem.EqNone.ne_none_int (dG I q (by simp))
  |str j=>obtain⟨t',rfl⟩:=ry;exact PySem.EqNone.ne_none_str (dG I q (by simp))
  |_=>exact absurd (show false=true from hs) Bool.false_ne_true
 |bl i =>
  cases rx
  cases y with
  |non=>cases ry;exact PySem.EqNone.ne_bool_none (dG I q (by simp))
  |bl j=>cases ry;exact ne_bool (dG I q (congrArg not Zo))
  |str j=>obtain⟨t',rfl⟩:=ry;exact PySem.EqMixed.ne_bool_str (dG I q (by simp))
  |_=>exact absurd (show false=true from hs) Bool.false_ne_true
 |int i =>
  obtain⟨t,rfl⟩:=rx
  cases y with
  |non=>cases ry;exact PySem.EqNone.ne_int_none (dG I q (by simp))
  |int j=>obtain⟨t',rfl⟩:=ry;exact ne_int (dG I q (congrArg not Ws))
  |str j=>obtain⟨t',rfl⟩:=ry;exact PySem.EqMixed.ne_int_str (dG I q (by simp))
  |_=>exact absurd (show false=true from hs) Bool.false_ne_true
 |str i =>
  obtain⟨t,rfl⟩:=rx
  cases y with
  |non=>cases ry;exact PySem.EqNone.ne_str_none (dG I q (by simp))
  |bl j=>cases ry;exact PySem.EqMixed.ne_str_bool (dG I q (by simp))
  |int j=>obtain⟨t',rfl⟩:=ry;exact PySem.EqMixed.ne_str_int (dG I q (by simp))
  |str j=>obtain⟨t',rfl⟩:=ry;exact ne_str (dG I q (congrArg not Wt))
  |_=>exact absurd (show false=true from hs) Bool.false_ne_true
 |byt i =>
  obtain⟨t,rfl⟩:=rx
  cases y with
  |byt j=>obtain⟨t',rfl⟩:=ry;exact PySem.W.ne_bytes (dG I q (congrArg not Wq))
  |_=>exact absurd (show false=true from hs) Bool.false_ne_true
 |_=>cases y<;>exact absurd (show false=true from hs) Bool.false_ne_true
theorem ad0:OpR X (compareOp .Lt) (rI0 fun i j=>.bl (decide (i<j))):=abT fun _ _ _ _ _ _ _ q=>lt_int q
theorem eX:OpR X (compareOp .LtE) (rI0 fun i j=>.bl (decide (i≤j))):=abT fun _ _ _ _ _ _ _ q=>le_int q
theorem aap:OpR X (compareOp .Gt) (rI0 fun i j=>.bl (decide (j<i))):=abT fun _ _ _ _ _ _ _ q=>gt_int q
theorem W3:OpR X (compareOp .GtE) (rI0 fun i j=>.bl (decide (j≤i))):=abT fun _ _ _ _ _ _ _ q=>ge_int q
theorem aaq:OpR X (compareOp .Is) (fun x y H Q=>y=.non∧Q (.bl (decide (x=.non))) H):=by
 intro pins s σ H x y v u Q I rx ry h
 obtain⟨rfl,q⟩:=h
 cases ry
 refine is_none_gen (dG I q ?_)
 cases x<;>first
  |(cases rx;rfl)
  |(obtain⟨t,rfl⟩:=rx;rfl)
theorem aQ(b:Expr){op:CmpOp}(h:op≠.In:=by decide)(h2:op≠.NotIn:=by decide):behindInMarks op b=false:=by
 have e1:(op==CmpOp.In)=false:=by cases op<;>first | rfl | exact absurd rfl h
 have e2:(op==CmpOp.NotIn)=false:=by cases op<;>first | rfl | exact absurd rfl h2
 cases b<;>simp[behindInMarks,e1,e2]
theorem fL{op:CmpOp}{r:R2}(ho:OpR X (compareOp op) r)(ha:PE X a ta)(hb:PE X b tb)(hm:behindInMarks op b=false):PE X (.Compare a [op] [b] pos) (tOp r ta tb):=by
 intro pins s σ H Q I h
 exact wpAny_Compare1 (acL ha hb I h fun v u s2 x y H2 I2 rx ry q=>ho pins s2 σ H2 x y v u Q I2 rx ry q) hm
def Xh(t:TE):TT:=fun σ H Q=>t σ H fun x H'=>∃k,x=.bl k∧Q k H'
theorem aR{op:CmpOp}{r:R2}(ho:OpR X (compareOp op) r)(ha:PE X a ta)(hb:PE X b tb)(hm:behindInMarks op b=false):PT X (.Compare a [op] [b] pos) (Xh (tOp r ta tb)):=by
 intro pins s σ H Q I h
 refine wpAny_isTrue_Compare1 (thn (ha pins s σ H _ I h) fun v s1 ⟨x,H1,I1,r1,q1⟩=>thn (hb pins s1 σ H1 _ I1 q1) fun u s2 ⟨y,H2,I2,r2,q2⟩ =>
  thn (ho pins s2 σ H2 x y v u _ I2 r1 r2 q2) fun c s3 ⟨z,H3,I3,r3,k,e,q3⟩=>?_) hm
 subst e
 cases r3
 exact wpAny_truthy_bool ⟨H3,I3,q3⟩
def We(r r':R2)(ta tb tc:TE):TE:=fun σ H Q=>ta σ H fun x H1=>tb σ H1 fun y H2=>r x y H2 fun z H3=>∃k,z=.bl k ∧
 (if k=true then tc σ H3 fun w' H4=>r' y w' H4 Q else Q (.bl false) H3)
theorem iC{op op':CmpOp}{r r':R2}(ho:OpR X (compareOp op) r)(ho':OpR X (compareOp op') r')(ha:PE X a ta)(hb:PE X b tb)(hc:PE X c tc)
  (hm:lastMarks [op,op'] [b,c]=false:=by with_unfolding_all rfl):PE X (.Compare a [op,op'] [b,c] pos) (We r r' ta tb tc):=by
 intro pins s σ H Q I h
 refine Compare_chain (thn (ha pins s σ H _ I h) fun v s1 ⟨x,H1,I1,r1,q1⟩=>chain_link (thn (hb pins s1 σ H1 _ I1 q1) fun u s2 ⟨y,H2,I2,r2,q2⟩ =>
  thn (ho pins s2 σ H2 x y v u _ I2 r1 r2 q2) fun d s3 ⟨z,H3,I3,r3,k,e,q3⟩=>?_)) hm
 subst e
 cases r3
 refine wpAny_truthy_bool ?_
 cases k with
 |false=>exact ite_ff ⟨.bl false,H3,I3,rfl,q3⟩
 |true=>exact ite_tt (chain_last (thn (hc pins s3 σ H3 _ I3 q3) fun w' s4 ⟨z',H4,I4,r4,q4⟩=>ho' pins s4 σ H4 y z' u w' Q I4 r2 r4 q4))
theorem S5{op op':CmpOp}{r r':R2}(ho:OpR X (compareOp op) r)(ho':OpR X (compareOp op') r')(ha:PE X a ta)(hb:PE X b tb)(hc:PE X c tc)
  (hm:lastMarks [op,op'] [b,c]=false:=by with_unfolding_all rfl):PT X (.Compare a [op,op'] [b,c] pos) (Xh (We r r' ta tb tc)):=by
 intro pins s σ H Q I h
 refine isTrue_chain (thn (ha pins s σ H _ I h) fun v s1 ⟨x,H1,I1,r1,q1⟩=>test_link (thn (hb pins s1 σ H1 _ I1 q1) fun u s2 ⟨y,H2,I2,r2,q2⟩ =>
  thn (ho pins s2 σ H2 x y v u _ I2 r1 r2 q2) fun d s3 ⟨z,H3,I3,r3,k,e,q3⟩=>?_)) hm
 subst e
 cases r3
 refine wpAny_truthy_bool ?_
 cases k with
 |false =>
  obtain⟨k',e',q'⟩:=q3
  cases e'
  exact ite_ff ⟨H3,I3,q'⟩
 |true =>
  refine ite_tt (test_last (thn (hc pins s3 σ H3 _ I3 q3) fun w' s4 ⟨z',H4,I4,r4,q4⟩=>thn (ho' pins s4 σ H4 y z' u w' _ I4 r2 r4 q4) fun d' s5 ⟨z2,H5,I5,r5,k2,e2,q5⟩=>?_))
  subst e2
  cases r5
  exact wpAny_truthy_bool ⟨H5,I5,q5⟩
theorem Qs:(sizeLine:Nat)<2 ^ 63:=by rw[sizeLine_eq];decide
theorem vals1{x:V}{us:List Value}(r:Vals [x] us):∃u,us=[u]∧RelV x u:=by
 cases r with
 |cons r1 r2=>cases r2;exact⟨_,rfl,r1⟩
theorem vals2{x y:V}{us:List Value}(r:Vals [x,y] us):∃u w',us=[u,w']∧RelV x u∧RelV y w':=by
 cases r with
 |cons r1 r2 =>
  cases r2 with
  |cons r3 r4=>cases r4;exact⟨_,_,rfl,r1,r3⟩
theorem XD(hc:X.calm=true):yI X (.builtin "min") (fun xs H Q=>∃i j,xs=[.int i,.int j]∧Q (.int (if j<i then j else i)) H):=by
 intro pins s σ H xs us Q I r h
 obtain⟨i,j,rfl,q⟩:=h
 obtain⟨u,w',rfl,⟨t,rfl⟩,⟨t',rfl⟩⟩:=vals2 r
 refine min_two_ints (I.ok.hd hc) fun h' tk k=>⟨_,H,I.kept k,?_,q⟩
 by_cases hj:j<i
 ·rw[if_pos hj,if_pos hj];exact⟨_,rfl⟩
 ·rw[if_neg hj,if_neg hj];exact⟨_,rfl⟩
theorem Aw:yI X (.type "int") (fun xs H Q=>(∃i,xs=[.int i]∧Q (.int i) H)∨∃k,xs=[.bl k]∧Q (.int (if k then 1 else 0)) H):=by
 intro pins s σ H xs us Q I r h
 rcases h with ⟨i,rfl,q⟩|⟨k,rfl,q⟩
 ·obtain⟨u,rfl,t,rfl⟩:=vals1 r
  exact call_int_int ⟨.int i,H,I,⟨_,rfl⟩,q⟩
 ·obtain⟨u,rfl,r1⟩:=vals1 r
  cases r1
  exact call_int_bool ⟨.int (if k then 1 else 0),H,I.tok _,⟨_,rfl⟩,q⟩
end
end L2
namespace L2
open PySem PySem.Spec PyProof.Rows
structure T_(h:Heap)(x dx C:Addr)(mA:Str→Option Value):Prop where
 obj:h.get? x=some (PySem.W.instObj C dx)
 ns:h.Ns1 dx mA
 ne:dx≠x
theorem Yl{h:Heap}{dx:Addr}{mA:Str→Option Value}(n:h.Ns1 dx mA):∃od,h.get? dx=some od∧∀name,PySem.W.lookIn name od=some (mA name):=by
 obtain⟨o,es,ep,ho,hd,hk,_,hm⟩:=n
 refine⟨o,ho,fun name=>?_⟩
 have e:=hm name
 unfold nsFind findBy at e
 rw[← Array.find?_toList]at e
 unfold PySem.W.lookIn
 rw[hd]
 dsimp only
 split
 ·rename_i y q
  rw[q]at e
  exact congrArg some e
 ·rename_i q
  rw[q]at e
  have a:es.toList.any (·.refKey)=false:=by
   rw[List.any_eq_false]
   intro y hy
   obtain⟨z,t,hkey⟩:=hk y (Array.mem_toList_iff.mp hy)
   simp[DictEntry.refKey,hkey]
  have a':¬es.toList.any (·.refKey)=true:=by rw[a];exact Bool.false_ne_true
  rw[if_neg a']
  exact congrArg some e
theorem T_.look{h:Heap}{x dx C:Addr}{mA:Str→Option Value}(I:T_ h x dx C mA):∃od,PySem.W.InstAt h x (PySem.W.instObj C dx) C (some od)∧∀name,PySem.W.lookIn name od=some (mA name) :=
 let ⟨od,ho,hl⟩:=Yl I.ns
 ⟨od,⟨I.obj,rfl,rfl,ho⟩,hl⟩
section
variable {prog:Program}{w:World}{A:Around}{E:Value→Shared→Prop}{s:Shared}{K:PySem.W.Frag}{x dx C f:Addr}{mA:Str→Option Value}{name:Str}{v:Value}
theorem get_map{expr:Bool}{Q:Value→Shared→Prop}(X:K.In s.heap)(I:T_ s.heap x dx C mA)(hg:PySem.W.plainGet K C name=true)(hh:PySem.W.hasDictIn K C=true)
  (ha:PySem.W.findIn K (.ref C) name=some none) (hv:mA name=some v) (hv':PySem.W.handedIn v=true) (h:Q v {s with toks:=s.toks+1}) :
  wpAny (model prog w) A (getAttr (.ref x) name expr) Q E s:=by
 obtain⟨od,J,hl⟩:=I.look
 exact PySem.W.get_value X J (PySem.W.plainGet_of hg).1 (PySem.W.findObj_own hh ha rfl (by rw[hl,hv])) hv' h
theorem ZP{pl:Sem Bool}{Q:Value×List Value→Shared→Prop}(X:K.In s.heap)(I:T_ s.heap x dx C mA)(hg:PySem.W.plainGet K C name=true)
  (hf:PySem.W.findIn K (.ref C) name=some (some (.ref f))) (ht:PySem.W.isFn K (.ref f)=true) (hv:mA name=none) (h:Q (.ref f,[.ref x]) s) :
  wpAny (model prog w) A (getMethod (.ref x) name pl) Q E s:=by
 obtain⟨od,J,hl⟩:=I.look
 exact PySem.W.method_fn X J (PySem.W.plainGet_of hg).1 (PySem.W.plainGet_of hg).2 hf (beq_iff_eq.mp ht) (by show(PySem.W.lookIn name od).map (·.isSome)=some false;rw[hl,hv];rfl) h
theorem ab5{ns:List Str}{Q:Unit→Shared→Prop}(X:K.In s.heap)(I:T_ s.heap x dx C mA)
  (hs:PySem.W.findIn K (.ref C) "__setattr__" = some (some (.builtin "object.__setattr__"))) (hp:PySem.W.plainOver K C=true) (ht:PySem.W.takerIn K C name=some none) (hh:PySem.W.hasDictIn K C=true)
  (hw:PySem.Within mA ns) (hsz:ns.length≤sizeLine)
  (h:∀h',T_ h' x dx C (fun y=>if y=name then some v else mA y)→Heap.SameBut dx s.heap h'→Q () {s with heap:=h',toks:=s.toks+2}) :
  wpAny (model prog w) A (setAttr (.ref x) name v) Q E s:=by
 obtain⟨od,J,hl⟩:=I.look
 refine PySem.W.set_plain X J hs (PySem.W.osa_open (s:={s with toks:=s.toks+1}) (r:=none) X J hp ht fun b=>?_)
 obtain⟨cd,hc,hd'⟩:=PySem.W.any_some hh
 have hx:s.heap.get? x=some ⟨.ref C,some dx,.plain,#[]⟩:=I.obj
 refine wpAny_bind (wpAny_pure (wpAny_bind (wpAny_bind (wpAny_loadPart hx (wpAny_bind (PySem.W.Looks.here (s:={s with toks:=s.toks+1}) (PySem.W.looks_clsIn X hc) ?_))))))
 rw[hd']
 refine wpAny_pure (a:=some dx) (wpAny_bind (wpAny_pure (wpAny_bind ?_)))
 refine wpAny_nsSet1 (s:={s with toks:=s.toks+1}) I.ns fun h' hn2 hs2=>?_
 obtain⟨oD,esD,epD,hoD,hdD,hcD⟩:=hn2.count (PySem.Within.cons name v hw)
 refine wpAny_bind (wpAny_lookBehind hoD (by rw[hdD];exact pastItsLine_dict (Nat.le_trans hcD (by rw[List.length_cons];omega))) ?_)
 exact wpAny_pure (h _ ⟨(hs2.2 _ (Ne.symm I.ne)).trans I.obj,hn2,I.ne⟩ hs2)
theorem aaf{R:Result→Shared→Prop}{vs:List Value}{kw:List (Str×Value)}(X:K.In s.heap)(hm:PySem.W.makesIn K C=true)
  (hi:PySem.W.findIn K (.ref C) "__init__" = some (some (.ref f))) (hf:PySem.W.typeIn K (.ref f)=some (.type "function"))
  (h:codeAny (model prog w) (A.under (.builtin "type.__call__" ⟨.ref C::vs,kw⟩)) (.call (.ref f) ⟨.ref (s.heap.objs.size+1)::vs,kw⟩) (PySem.W.InitBack (s.heap.objs.size+1) R)
   {s with heap:=(s.heap.push PySem.W.emptyDict).push (PySem.W.instObj C s.heap.objs.size)}) :
  codeAny (model prog w) A (.call (.ref C) ⟨vs,kw⟩) R s:=by
 obtain⟨hh,g,d,t,os⟩:=s
 exact PySem.W.make_core (PySem.W.makes_of X hm) (PySem.W.looks_findIn X hi) (fun self=>PySem.W.bind_fn X self hf) (.inl rfl) h
end
def bK(f:Str)(v:V):List (Str×V)→List (Str×V)
 |[]=>[(f,v)]
 |(g,x)::r=>if g=f then (g,v)::r else (g,x)::bK f v r
theorem pG(f g:Str)(v:V):∀fs:List (Str×V),(bK f v fs).lookup g=if g=f then some v else fs.lookup g
 |[]=>by
  show List.lookup g [(f,v)]=_
  by_cases h:g=f
  ·have hb:(g==f)=true:=beq_iff_eq.mpr h
   simp only[List.lookup,hb,if_pos h]
  ·have hb:(g==f)=false:=beq_eq_false_iff_ne.mpr h
   simp only[List.lookup,hb,if_neg h]
 |(k,x)::r=>by
  have ih:=pG f g v r
  rw[show bK f v ((k,x)::r)=(if k=f then (k,v)::r else (k,x)::bK f v r)from rfl]
  by_cases hk:k=f
  ·rw[if_pos hk]
   by_cases h:g=k
   ·have hb:(g==k)=true:=beq_iff_eq.mpr h
    simp only[List.lookup,hb,if_pos (h.trans hk)]
   ·have hb:(g==k)=false:=beq_eq_false_iff_ne.mpr h
    simp only[List.lookup,hb,if_neg (fun e:g=f=>h (e.trans hk.symm))]
  ·rw[if_neg hk]
   by_cases h:g=k
   ·have hb:(g==k)=true:=beq_iff_eq.mpr h
    simp only[List.lookup,hb,if_neg (fun e:g=f=>hk (h.symm.trans e))]
   ·have hb:(g==k)=false:=beq_eq_false_iff_ne.mpr h
    simp only[List.lookup,hb]
    exact ih
theorem Gp(f:Str)(v:V):∀fs:List (Str×V),f∈(bK f v fs).map (·.1)∧∀g,g∈fs.map (·.1)→g∈(bK f v fs).map (·.1)
 |[]=>⟨by simp[bK],fun g h=>by simp at h⟩
 |(k,x)::r=>by
  obtain⟨i1,i2⟩:=Gp f v r
  rw[show bK f v ((k,x)::r)=(if k=f then (k,v)::r else (k,x)::bK f v r)from rfl]
  by_cases hk:k=f
  ·rw[if_pos hk]
   subst hk
   exact⟨by simp,fun g h=>by simpa using h⟩
  ·rw[if_neg hk]
   refine⟨?_,fun g h=>?_⟩
   ·rw[List.map_cons]
    exact List.mem_cons_of_mem _ i1
   ·rw[List.map_cons]at h ⊢
    rcases List.mem_cons.mp h with e|e
    ·exact List.mem_cons.mpr (.inl e)
    ·exact List.mem_cons_of_mem _ (i2 g e)
theorem Hx(f:Str)(v:V):∀fs:List (Str×V),(bK f v fs).length≤fs.length+1
 |[]=>by simp[bK]
 |(k,x)::r=>by
  have ih:=Hx f v r
  rw[show bK f v ((k,x)::r)=(if k=f then (k,v)::r else (k,x)::bK f v r)from rfl]
  by_cases hk:k=f
  ·rw[if_pos hk,List.length_cons,List.length_cons];omega
  ·rw[if_neg hk,List.length_cons,List.length_cons];omega
theorem yS.some_of{v:V}{o:Option Value}(r:yS (some v) o):∃u,o=some u∧RelV v u:=by
 cases o with
 |none=>exact(show False from r).elim
 |some u=>exact⟨u,rfl,r⟩
theorem yS.none_of{o:Option Value}(r:yS none o):o=none:=by
 cases o with
 |none=>rfl
 |some u=>exact(show False from r).elim
theorem X8{v:V}{u:Value}(r:RelV v u):PySem.W.handedIn u=true:=by
 cases v with
 |non=>cases (show u=Value.none from r);rfl
 |bl b=>cases (show u=Value.bool b from r);rfl
 |int i=>obtain⟨t,e⟩:=(show ∃t,u=Value.int i t from r);cases e;rfl
 |str x=>obtain⟨t,e⟩:=(show ∃t,u=Value.str x t from r);cases e;rfl
 |byt b=>obtain⟨t,e⟩:=(show ∃t,u=Value.bytes b t from r);cases e;rfl
 |flt b=>obtain⟨t,e⟩:=(show ∃t,u=Value.float b t from r);cases e;rfl
 |ref a=>cases (show u=Value.ref a from r);rfl
 |ty n=>cases (show u=Value.type n from r);rfl
section
variable {P:Program}{w:World}{H H':Hp}{h h':Heap}{a C dx:Addr}{fs fs':List (Str×V)}
theorem Qk(hok:HOk P w H h)(e:H a=some (.ins C dx fs)):∃mA,T_ h a dx C mA∧(∀f,yS (fs.lookup f) (mA f))∧PySem.Within mA (fs.map (·.1))∧fs.length≤1000∧H dx=some (.own a):=by
 obtain⟨d,z,ne,ob,mA,n,r,q⟩:=(show ie P w H h a (.ins C dx fs)from hok a _ e)
 exact⟨mA,⟨ob,n,ne⟩,r,q,z,d⟩
end
theorem Cls.get{K:PySem.W.Frag}{C:Addr}(c:Cls K C)(f:Str):PySem.W.plainGet K C f=true:=c.pg
theorem cJ.taker{K:PySem.W.Frag}{C:Addr}{f:Str}(n:cJ K C f):PySem.W.takerIn K C f=some none:=by
 unfold PySem.W.takerIn
 rw[show PySem.W.findIn K (.ref C) f=some none from n]
 rfl
section
variable {X:Cx}{pins:List (Addr×Obj)}{σ:St}{H:Hp}{s:Shared}{a C dx:Addr}{fs:List (Str×V)}{f:Str}{v:V}{A:Around}{E:Value→Shared→Prop}
theorem J2{b:Bool}{Q:Value→Shared→Prop}(I:Inv X pins σ H s)(e:H a=some (.ins C dx fs))(c:Cls X.K C)(n:cJ X.K C f)(l:fs.lookup f=some v)
  (h:∀u s',Inv X pins σ H s'→RelV v u→Q u s'):wpAny (model X.prog X.w) A (getAttr (.ref a) f b) Q E s:=by
 obtain⟨mA,O,r,_,_,_⟩:=Qk I.hok e
 obtain⟨u,hu,ru⟩:=yS.some_of (v:=v) (o:=mA f) (by rw[← l];exact r f)
 exact get_map I.kIn O (c.get f) c.hd n hu (X8 ru) (h u _ (I.tok _) ru)
theorem CT{m:Str}{g:Addr}{pl:Sem Bool}{Q:Value×List Value→Shared→Prop}(I:Inv X pins σ H s)(e:H a=some (.ins C dx fs))(c:Cls X.K C)(k:Meth X.K C m g)(l:fs.lookup m=none)
  (h:Q (.ref g,[.ref a]) s):wpAny (model X.prog X.w) A (getMethod (.ref a) m pl) Q E s:=by
 obtain⟨mA,O,r,_,_,_⟩:=Qk I.hok e
 have hn:mA m=none:=yS.none_of (by rw[← l];exact r m)
 exact ZP I.kIn O (c.get m) k.at_ k.fn hn h
theorem Ld{y:V}{u:Value}{Q:Unit→Shared→Prop}(I:Inv X pins σ H s)(e:H a=some (.ins C dx fs))(c:Cls X.K C)(n:cJ X.K C f)(hl:fs.length<1000)(ry:RelV y u)
  (h:∀s',Inv X pins σ (upd H a (.ins C dx (bK f y fs))) s'→Q () s'):wpAny (model X.prog X.w) A (setAttr (.ref a) f u) Q E s:=by
 obtain⟨mA,O,r,wi,_,ho⟩:=Qk I.hok e
 have hz:(fs.map (·.1)).length≤sizeLine:=by rw[List.length_map,sizeLine_eq];omega
 refine ab5 I.kIn O c.sa c.po n.taker c.hd wi hz fun h' O' sb=>h _ ?_
 have hd:∃o,h'.get? dx=some o:=let ⟨o,_,_,e',_⟩:=O'.ns;⟨o,e'⟩
 refine I.write (x:=a) (e:=dx) (by rw[e];exact True.intro) (.inr ho) (fun b q hb z=>(sb.2 b hb).trans z) hd ?_
 refine⟨by rw[aO O.ne];exact ho,?_,O.ne,O'.obj,_,O'.ns,fun g=>?_,fun g hg=>?_⟩
 ·have:=Hx f y fs;omega
 ·show yS ((bK f y fs).lookup g) (if g=f then some u else mA g)
  rw[pG]
  by_cases q:g=f
  ·rw[if_pos q,if_pos q];exact ry
  ·rw[if_neg q,if_neg q];exact r g
 ·by_cases q:g=f
  ·rw[q];exact(Gp f y fs).1
  ·refine(Gp f y fs).2 g (wi g fun z=>hg ?_)
   show(if g=f then some u else mA g)=none
   rw[if_neg q];exact z
theorem Inv.made(I:Inv X pins σ H s):Inv X pins σ (upd (upd H s.heap.objs.size (.own (s.heap.objs.size+1))) (s.heap.objs.size+1) (.ins C s.heap.objs.size []))
  {s with heap:=(s.heap.push PySem.W.emptyDict).push (PySem.W.instObj C s.heap.objs.size)}:=by
 have e1:(s.heap.push PySem.W.emptyDict).get? s.heap.objs.size=some PySem.W.emptyDict:=Heap.get?_push_size s.heap rfl
 have e2:((s.heap.push PySem.W.emptyDict).push (PySem.W.instObj C s.heap.objs.size)).get? (s.heap.objs.size+1)=some (PySem.W.instObj C s.heap.objs.size):=by
  have:=Heap.get?_push_size (s.heap.push PySem.W.emptyDict) (o:=PySem.W.instObj C s.heap.objs.size) rfl
  rwa [Heap.size_push]at this
 have e3:(s.heap.push PySem.W.emptyDict).Ns s.heap.objs.size (fun _=>none):=⟨PySem.W.emptyDict,#[],_,e1,rfl,(fun e he=>absurd he (by simp)),fun _=>rfl⟩
 have I1:=I.laid (a:=s.heap.objs.size) (o:=.own (s.heap.objs.size+1)) (h':=s.heap.push PySem.W.emptyDict) (t':=s.toks) (fun b u q=>Heap.get?_push_of_some _ q) (Nat.le_refl _) ⟨_,e1⟩
 refine I1.laid (a:=s.heap.objs.size+1) (o:=.ins C s.heap.objs.size []) (t':=s.toks) (fun b u q=>Heap.get?_push_of_some _ q) (Nat.le_of_eq (Heap.size_push _ _)) ?_
 have ne:s.heap.objs.size≠s.heap.objs.size+1:=Nat.ne_of_lt (Nat.lt_succ_self _)
 refine⟨by rw[aO ne,aX],Nat.zero_le _,ne,e2,fun _=>none,(Heap.Ns1.of_empty e3).at fun o q=>Heap.get?_push_of_some _ q,fun _=>True.intro,fun y hy=>absurd rfl hy⟩
theorem abj{prog:Program}{w:World}{env:Env}{e:Expr}{f:Str}{pos:Pos}{s:Shared}{Q:Value→Shared→Prop}(hb:attributeBase e f env (eval e env)=eval e env)
  (h:wpAny (model prog w) A (eval e env) (fun o s₁=>wpAny (model prog w) A (getAttr o f true) Q E s₁) E s):wpAny (model prog w) A (eval (.Attribute e f pos) env) Q E s :=
 Attribute_any_ h (by rw[arm_eval_Attribute,hb])
end
def km(K:PySem.W.Frag)(ta:TE)(f:Str):TE:=fun σ H Q=>ta σ H fun x H1=>∃a C dx fs v,x=.ref a∧H1 a=some (.ins C dx fs)∧Cls K C∧cJ K C f∧fs.lookup f=some v∧Q v H1
def adw(K:PySem.W.Frag)(ta tv:TE)(f:Str):TS:=fun D σ H=>tv σ H fun y H1=>ta σ H1 fun x H2=>∃a C dx fs,x=.ref a∧H2 a=some (.ins C dx fs)∧Cls K C∧cJ K C f∧fs.length<1000 ∧
 D.nx σ (upd H2 a (.ins C dx (bK f y fs)))
def adK(X:Cx)(op:Operator)(rd:V→V→Hp→VK→Prop):Prop :=
 ∀(pins:List (Addr×Obj)) (s:Shared) (σ:St) (H:Hp) (x y:V) (u v:Value) (Q:VK),Inv X pins σ H s→RelV x u→RelV y v→rd x y H Q→wpAny (model X.prog X.w) X.A (inplaceOp op u v) (EP X pins σ Q) X.xe s
def Xc(K:PySem.W.Frag)(ta tv:TE)(rd:V→V→Hp→VK→Prop)(f:Str):TS:=fun D σ H=>ta σ H fun x H1=>∃a C dx fs v,x=.ref a∧H1 a=some (.ins C dx fs)∧Cls K C∧cJ K C f∧fs.lookup f=some v ∧
 tv σ H1 fun y H2=>rd v y H2 fun z H3=>∃dx' fs',H3 a=some (.ins C dx' fs')∧fs'.length<1000∧D.nx σ (upd H3 a (.ins C dx' (bK f z fs')))
section
variable {X:Cx}{o e value:Expr}{f:Str}{pos pos' tpos:Pos}{ta tv:TE}
theorem ado(he:PE X e ta)(hb:attributeBase e f X.env (eval e X.env)=eval e X.env):PE X (.Attribute e f pos) (km X.K ta f):=by
 intro pins s σ H Q I h
 refine abj hb (thn (he pins s σ H _ I h) fun u s1 ⟨x,H1,I1,rx,a,C,dx,fs,v,ex,ea,c,n,l,q⟩=>?_)
 subst ex
 obtain rfl:u=Value.ref a:=rx
 exact J2 I1 ea c n l fun u' s2 I2 ru=>⟨v,H1,I2,ru,q⟩
theorem bG(ha:PE X o ta)(hv:PE X value tv)(hs:swapsWith value (some (.Attribute o f pos')) pos.line X.env=pure false):PS X (.Assign [.Attribute o f pos'] value pos) (adw X.K ta tv f):=by
 intro pins s σ H D I h
 refine plainObj_wpAny_Assign_Attribute (thn (hv pins s σ H _ I h) fun u s1 ⟨y,H1,I1,ry,q⟩=>thn (ha pins s1 σ H1 _ I1 q) fun ov s2 ⟨x,H2,I2,rx,a,C,dx,fs,ex,ea,c,n,l,q2⟩=>?_) hs
 subst ex
 obtain rfl:ov=Value.ref a:=rx
 exact Ld I2 ea c n l ry fun s3 I3=>⟨σ,_,I3,q2⟩
theorem uF{op:Operator}{rd:V→V→Hp→VK→Prop}(ha:PE X o ta)(hv:PE X value tv)(hop:adK X op rd):PS X (.AugAssign (.Attribute o f tpos) op value pos) (Xc X.K ta tv rd f):=by
 intro pins s σ H D I h
 refine wpAny_AugAssign_AttributeAny (thn (ha pins s σ H _ I h) fun ov s1 ⟨x,H1,I1,rx,a,C,dx,fs,v,ex,ea,c,n,l,q⟩=>?_)
 subst ex
 obtain rfl:ov=Value.ref a:=rx
 refine J2 I1 ea c n l fun u s2 I2 ru=>thn (hv pins s2 σ H1 _ I2 q) fun w3 s3 ⟨y,H2,I3,ry,q3⟩=>thn (hop pins s3 σ H2 v y u w3 _ I3 ru ry q3) fun w4 s4 ⟨z,H3,I4,rz,dx',fs',ea',l',q4⟩=>?_
 exact Ld I4 ea' c n l' rz fun s5 I5=>⟨σ,_,I5,q4⟩
def ad4:V→V→Hp→VK→Prop:=fun x y H Q=>∃i j,x=.int i∧y=.int j∧Q (.int (i+j)) H
theorem Gk:adK X .Add ad4:=by
 rintro pins s σ H x y u v Q I rx ry ⟨i,j,rfl,rfl,q⟩
 obtain⟨t,rfl⟩:=(show ∃t,u=Value.int i t from rx)
 obtain⟨t',rfl⟩:=(show ∃t',v=Value.int j t' from ry)
 exact PyProof.Rows.iadd_int ⟨.int (i+j),H,I.tok _,⟨_,rfl⟩,q⟩
theorem acs{pl:Sem Bool}{m:Str}{apos:Pos}{args:List Expr}{pins:List (Addr×Obj)}{s:Shared}{σ:St}{H:Hp}{Q:Value→Shared→Prop}{te:TE}(he:PE X e te)(I:Inv X pins σ H s)
  (h:te σ H fun x H1=>∃a C dx fs g,x=.ref a∧H1 a=some (.ins C dx fs)∧Cls X.K C∧Meth X.K C m g∧fs.lookup m=none ∧
   ∀s1,Inv X pins σ H1 s1→wpAny (model X.prog X.w) X.A (callWith pos (.ref g) [.ref a] (backTo pos (starEach args X.env)) (backToKw pos (keywordEach [] X.env))) Q X.xe s1)
  (ht:eval (.Call (.Attribute e m apos) args [] pos) X.env=(do
   let ov ← eval e X.env
   standAt apos.atName
   let (f,first) ← holding [ov] (getMethod ov m pl)
   callWith pos f first (backTo pos (starEach args X.env)) (backToKw pos (keywordEach [] X.env)))) :
  wpAny (model X.prog X.w) X.A (eval (.Call (.Attribute e m apos) args [] pos) X.env) Q X.xe s:=by
 refine PySem.W.methodCall_KW (pl:=pl) (thn (he pins s σ H _ I h) fun u s1 ⟨x,H1,I1,rx,a,C,dx,fs,g,ex,ea,c,k,l,q⟩=>?_) ht
 subst ex
 obtain rfl:u=Value.ref a:=rx
 exact CT I1 ea c k l (q s1 I1)
end
end L2
namespace L2
open PySem PySem.Spec PyProof.Rows
structure jx(k:Nat)(A:Around):Prop where
 hd:A.handled=none
 dp:A.depth+3 * k+5<recursionLimit
 un:A.units+16 * k+200<cLine
theorem jx.mono{j k:Nat}{A:Around}(r:jx k A)(h:j≤k):jx j A:=⟨r.hd,by have:=r.dp;omega,by have:=r.un;omega⟩
theorem jx.deeper{k:Nat}{A:Around}(r:jx (k+1) A)(env:Env):jx k (A.deeper env) :=
 ⟨r.hd,by have:=r.dp;show A.depth+1+3 * k+5<_;omega,by have:=r.un;show A.units+3+16 * k+200<_;omega⟩
theorem jx.in1{k:Nat}{A:Around}(r:jx (k+1) A):jx k A.in1 :=
 ⟨r.hd,by have:=r.dp;show A.depth+3 * k+5<_;omega,by have:=r.un;show A.units+1+16 * k+200<_;omega⟩
theorem Vj{A:Around}{C:Addr}{us:List Value}{kw:List (Str×Value)}:(A.under (.builtin "type.__call__" ⟨.ref C::us,kw⟩)).depth=A.depth+1:=by
 first | rfl | simp[Around.under,Code.weight,Code.isCreation,Code.isGuard,Code.isCaller,Code.frames,Code.isFrame,guardIds]
theorem Vk{A:Around}{C:Addr}{us:List Value}{kw:List (Str×Value)}:(A.under (.builtin "type.__call__" ⟨.ref C::us,kw⟩)).units=A.units+1:=by
 first | rfl | simp[Around.under,Code.cUnits,Code.frames,Code.isFrame]
theorem jx.make{k:Nat}{A:Around}(r:jx (k+1) A)(C:Addr)(us:List Value)(kw:List (Str×Value)):jx k (A.under (.builtin "type.__call__" ⟨.ref C::us,kw⟩)) :=
 ⟨r.hd,by have:=r.dp;rw[Vj];omega,by have:=r.un;rw[Vk];omega⟩
theorem jx.depth{k:Nat}{A:Around}(r:jx k A):A.depth<recursionLimit:=by have:=r.dp;omega
theorem jx.units{k:Nat}{A:Around}(r:jx k A):A.units+64<cLine:=by have:=r.un;omega
theorem jx.aba{k:Nat}{A:Around}(r:jx k A):A.units<cLine:=by have:=r.un;omega
def eV:TA:=fun _ H Q=>Q [] H
def bw(ta:TE)(tr:TA):TA:=fun σ H Q=>ta σ H fun x H1=>tr σ H1 fun xs H2=>Q (x::xs) H2
section
variable {X:Cx}{e:Expr}{es:List Expr}{te:TE}{t:TA}{pos:Pos}
theorem aq:PA X [] eV:=fun _ _ _ _ H Q I h=>Calls.spliced_nil ⟨[],H,I,.nil,h⟩
theorem aj(ha:PE X e te)(hr:PA X es t)(hs:starEach (e::es) X.env=(false,eval e X.env)::starEach es X.env:=by rfl):PA X (e::es) (bw te t):=by
 intro pos pins s σ H Q I h
 rw[hs]
 show wpAny _ _ (spliced ((false,eval e X.env)::backTo pos (starEach es X.env))) _ _ s
 refine Calls.spliced_cons (thn (ha pins s σ H _ I h) fun u s1 ⟨x,H1,I1,r1,q1⟩=>?_)
 exact thn (hr pos pins s1 σ H1 _ I1 q1) fun us s2 ⟨xs,H2,I2,r2,q2⟩=>⟨x::xs,H2,I2,.cons r1 r2,q2⟩
def aeh(t:TA):TE:=fun σ H Q=>t σ H fun xs H1=>xs.length≤sizeLine∧∀p,H1 p=none→Q (.ref p) (upd H1 p (.tup xs))
def aa3(t:TA):TE:=fun σ H Q=>t σ H fun xs H1=>xs.length≤sizeLine∧∀p,H1 p=none→Q (.ref p) (upd H1 p (.lst xs))
theorem VH{x1}(h:PA X es t):PE X (.Tuple es x1 pos) (aeh t):=by
 intro pins s σ H Q I hq
 refine wpAny_Tuple_spliced (thn (h pos pins s σ H _ I hq) fun us s1 ⟨xs,H1,I1,r,z,q⟩=>⟨by rw[← r.length];exact z,?_⟩)
 have hf:H1 s1.heap.objs.size=none:=I1.hok.fresh (Nat.le_refl _)
 refine⟨.ref s1.heap.objs.size,upd H1 s1.heap.objs.size (.tup xs),I1.laid (t':=s1.toks) (fun b u e=>Heap.get?_push_of_some _ e) (Nat.le_refl _) ?_,rfl,q _ hf⟩
 exact⟨z,us,r,⟨_,Heap.get?_push_size _ rfl,rfl,_,rfl⟩⟩
theorem bc(h:PA X es t):PE X (.List es pos) (aa3 t):=by
 intro pins s σ H Q I hq
 refine wpAny_List_spliced (thn (h pos pins s σ H _ I hq) fun us s1 ⟨xs,H1,I1,r,z,q⟩=>⟨by rw[← r.length];exact z,?_⟩)
 have hf:H1 s1.heap.objs.size=none:=I1.hok.fresh (Nat.le_refl _)
 refine⟨.ref s1.heap.objs.size,upd H1 s1.heap.objs.size (.lst xs),I1.laid (t':=s1.toks) (fun b u e=>Heap.get?_push_of_some _ e) (Nat.le_refl _) ?_,rfl,q _ hf⟩
 exact⟨z,us,0,r,Heap.get?_push_size _ rfl⟩
end
abbrev Sp:=List V→Hp→VK→XK→Prop
abbrev CXT:=List Env→Hp→Shared→XK→Value→Shared→Prop
structure T8(P:Program)(w:World)(K:PySem.W.Frag)(mg:Str→Option Value)(base:Heap)(A:Around)(outer:List Env)(s:Shared)(H:Hp):Prop where
 frames:A.frames=some outer
 mod:Mod K mg base
 bs:∀b o,base.get? b=some o→s.heap.get? b=some o∧H b=none
 bsz:base.objs.size≤s.heap.objs.size
 En:s.heap.FunFrames base outer
 frf:∀b∈frs outer,H b=none
 hok:HOk P w H s.heap
 bare:AllBare s.gens
def CE(outer:List Env)(P:Program)(w:World)(H:Hp)(s:Shared)(Q:VK)(u:Value)(s':Shared):Prop :=
 ∃v H',s'.os=s.os∧AllBare s'.gens∧Un (frs outer) [] H H' s.heap s'.heap∧HOk P w H' s'.heap∧RelV v u∧Q v H'
def CR(CX:CXT)(outer:List Env)(P:Program)(w:World)(H:Hp)(s:Shared)(Q:VK)(E:XK)(r:Result)(s':Shared):Prop :=
 match r with
 |.ok (.ret u)=>CE outer P w H s Q u s'
 |.ok _=>False
 |.error e=>CX outer H s E e s'
structure bD(P:Program)(w:World)(K:PySem.W.Frag)(mg:Str→Option Value)(base:Heap)(CX:CXT)(k:Nat)(f:Addr)(fd:FuncData)(ps:List Str)(sp:Sp):Prop where
 len:∀vs H Q E,sp vs H Q E→vs.length=ps.length
 run:∀(A:Around) (outer:List Env) (s:Shared) (H:Hp) (args:Args) (us:List Value) (vs:List V) (Q:VK) (E:XK),jx k A→T8 P w K mg base A outer s H→BindsTo s fd args (ps.zip us)→Vals vs us→sp vs H Q E →
  codeAny (model P w) A (.call (.ref f) args) (CR CX outer P w H s Q E) s
theorem T8.make{P:Program}{w:World}{K:PySem.W.Frag}{mg:Str→Option Value}{base:Heap}{A:Around}{outer:List Env}{s:Shared}{H:Hp}(e:T8 P w K mg base A outer s H)(C:Addr)(us:List Value)(kw:List (Str×Value)) :
  T8 P w K mg base (A.under (.builtin "type.__call__" ⟨.ref C::us,kw⟩)) outer s H:=⟨by first | exact e.frames | (simpa [Around.under,Code.envs,Code.isFrame,pushEnvs]using e.frames),e.mod,e.bs,e.bsz,e.En,e.frf,e.hok,e.bare⟩
section
variable {X:Cx}{pins:List (Addr×Obj)}{σ:St}{H:Hp}{s s':Shared}
theorem Inv.env0(I:Inv X pins σ H s):T8 X.prog X.w X.K X.mg X.base X.A X.stack s H :=
 ⟨I.ok.frames,I.ok.mod,I.bs,Nat.le_trans I.ok.bsz I.sz,I.stack,I.Q6,I.hok,I.bare⟩
theorem Inv.after{Q:VK}{u:Value}(I:Inv X pins σ H s)(h:CE X.stack X.prog X.w H s Q u s'):EP X pins σ Q u s':=by
 obtain⟨v,H',os,bare,un,hok,r,q⟩:=h
 obtain⟨hh,g,d,t,os'⟩:=s'
 obtain rfl:os'=s.os:=os
 exact⟨v,H',I.call (h':=hh) (g':=g) (d':=d) (t':=t) (ch:=[]) un hok bare (fun b z=>absurd z (by simp)),r,q⟩
end
def fH(sp:Sp)(dvs:List V)(E:XK)(t:TA):TE:=fun σ H Q=>t σ H fun vs H1=>sp (vs++dvs) H1 Q E
def Om(C:Addr)(m:Str)(sp:Sp)(dvs:List V)(E:XK)(ta:TE)(t:TA):TE:=fun σ H Q=>ta σ H fun x H1=>∃a dx fs,x=.ref a∧H1 a=some (.ins C dx fs)∧fs.lookup m=none ∧
 t σ H1 fun vs H2=>sp (x::(vs++dvs)) H2 Q E
def Ol(C:Addr)(sp:Sp)(dvs:List V)(E:XK)(t:TA):TE:=fun σ H Q=>t σ H fun vs H1=>∀x dx,H1 x=none→H1 dx=none→dx≠x →
 sp (.ref x::(vs++dvs)) (upd (upd H1 dx (.own x)) x (.ins C dx [])) (fun v H2=>v=.non∧Q (.ref x) H2) E
def Passes(CX:CXT)(X:Cx)(E:XK):Prop:=∀(pins:List (Addr×Obj)) (σ:St) (H:Hp) (s:Shared) (e:Value) (s':Shared),Inv X pins σ H s→CX X.stack H s E e s'→X.xe e s'
section
variable {X:Cx}{CX:CXT}{k:Nat}{f C:Addr}{fd:FuncData}{ps:List Str}{sp:Sp}{dvs:List V}{ds:List Value}{E:XK}{x m:Str}{p pos apos:Pos}{e o:Expr}{es:List Expr}{ta:TE}{t:TA}
theorem VR{pins:List (Addr×Obj)}{σ:St}{H:Hp}{s:Shared}{Q:VK}{us:List Value}{vs:List V}(F:bD X.prog X.w X.K X.mg X.base CX k f fd ps sp)(hr:jx k X.A)(hb:Binds X.K fd ps ds)(hd:Vals dvs ds)(hx:Passes CX X E)
  (I:Inv X pins σ H s) (r:Vals vs us) (h:sp (vs++dvs) H Q E):wpAny (model X.prog X.w) X.A (call (.ref f) us) (EP X pins σ Q) X.xe s:=by
 have r2:Vals (vs++dvs) (us++ds):=r.append hd
 have hl:(us++ds).length=ps.length:=by rw[← r2.length];exact F.len _ _ _ _ h
 refine wpAny_call (codeAny_mono (F.run X.A X.stack s H ⟨us,[]⟩ (us++ds) (vs++dvs) Q E hr I.env0 (hb s us I.kIn hl) r2 h) fun r s' hq=>?_)
 cases r with
 |error e=>exact hx pins σ H s e s' I hq
 |ok fl =>
  cases fl with
  |ret u=>exact I.after hq
  |next=>exact False.elim hq
  |brk=>exact False.elim hq
  |cont=>exact False.elim hq
theorem abU(F:bD X.prog X.w X.K X.mg X.base CX k f fd ps sp)(hr:jx k X.A)(hg:Gl X x)(hm:X.mg x=some (.ref f))(hk:PySem.W.keepIn X.K (.ref f)=true)(hb:Binds X.K fd ps ds)(hd:Vals dvs ds)(hx:Passes CX X E)
  (ha:PA X (e::es) t) (hdb:(x==("__debug__" : Str))=false:=by decide) (he:starEach (e::es) X.env=(false,eval e X.env)::starEach es X.env:=by rfl) (hpl:(backTo pos (starEach es X.env)).any (·.1)=false:=by rfl) :
  PE X (.Call (.Name x p) (e::es) [] pos) (fH sp dvs E t):=by
 intro pins s σ H Q I h
 refine wpAny_Call_Name_kw (IW I hg hm ?_ hdb)
 refine PySem.W.callWith_K (h₀:=X.base) I.ok.mod.kin hk (thn (ha pos pins s σ H _ I h) fun us s1 ⟨vs,H1,I1,r,q⟩=>⟨I1.kIn,?_⟩) he hpl
 exact VR F hr hb hd hx I1 r q
theorem abX{pl:Sem Bool}(he:PE X o ta)(c:Cls X.K C)(hm:Meth X.K C m f)(F:bD X.prog X.w X.K X.mg X.base CX k f fd ps sp)(hr:jx k X.A)(hb:Binds X.K fd ps ds)(hd:Vals dvs ds)(hx:Passes CX X E)(ha:PA X (e::es) t)
  (hst:starEach (e::es) X.env=(false,eval e X.env)::starEach es X.env:=by rfl) (hpl:(backTo pos (starEach es X.env)).any (·.1)=false:=by rfl)
  (ht:eval (.Call (.Attribute o m apos) (e::es) [] pos) X.env=(do
   let ov ← eval o X.env
   standAt apos.atName
   let (f,first) ← holding [ov] (getMethod ov m pl)
   callWith pos f first (backTo pos (starEach (e::es) X.env)) (backToKw pos (keywordEach [] X.env))):=by rfl) :
  PE X (.Call (.Attribute o m apos) (e::es) [] pos) (Om C m sp dvs E ta t):=by
 intro pins s σ H Q I h
 refine PySem.W.methodCall_KW (pl:=pl) (thn (he pins s σ H _ I h) fun u s1 ⟨x,H1,I1,rx,a,dx,fs,ex,ea,l,q⟩=>?_) ht
 subst ex
 obtain rfl:u=Value.ref a:=rx
 refine CT I1 ea c hm l ?_
 refine PySem.W.callWith_K (first:=[.ref a]) (h₀:=X.base) I.ok.mod.kin hm.kp (thn (ha pos pins s1 σ H1 _ I1 q) fun us s2 ⟨vs,H2,I2,r,q2⟩=>⟨I2.kIn,?_⟩) hst hpl
 exact VR (us:=.ref a::us) (vs:=.ref a::vs) F hr hb hd hx I2 (.cons rfl r) q2
theorem aaA{pl:Sem Bool}(he:PE X o ta)(c:Cls X.K C)(hm:Meth X.K C m f)(F:bD X.prog X.w X.K X.mg X.base CX k f fd ps sp)(hr:jx k X.A)(hb:Binds X.K fd ps ds)(hd:Vals dvs ds)(hx:Passes CX X E)
  (ht:eval (.Call (.Attribute o m apos) [] [] pos) X.env=(do
   let ov ← eval o X.env
   standAt apos.atName
   let (f,first) ← holding [ov] (getMethod ov m pl)
   callWith pos f first (backTo pos (starEach [] X.env)) (backToKw pos (keywordEach [] X.env))):=by rfl) :
  PE X (.Call (.Attribute o m apos) [] [] pos) (Om C m sp dvs E ta eV):=by
 intro pins s σ H Q I h
 refine PySem.W.methodCall_KW (pl:=pl) (thn (he pins s σ H _ I h) fun u s1 ⟨x,H1,I1,rx,a,dx,fs,ex,ea,l,q⟩=>?_) ht
 subst ex
 obtain rfl:u=Value.ref a:=rx
 refine CT I1 ea c hm l ?_
 exact PySem.W.callWith_K0 (first:=[.ref a]) I1.kIn hm.kp (VR (us:=[.ref a]) (vs:=[.ref a]) F hr hb hd hx I1 (.cons rfl .nil) q)
theorem Td{pins:List (Addr×Obj)}{σ:St}{H:Hp}{s:Shared}{Q:VK}{us:List Value}{vs:List V}(M:Mk X.K C f)(F:bD X.prog X.w X.K X.mg X.base CX k f fd ps sp)(hr:jx (k+1) X.A)(hb:Binds X.K fd ps ds)(hd:Vals dvs ds)
  (hx:Passes CX X E) (I:Inv X pins σ H s) (r:Vals vs us)
  (h:∀x dx,H x=none→H dx=none→dx≠x→sp (.ref x::(vs++dvs)) (upd (upd H dx (.own x)) x (.ins C dx [])) (fun v H2=>v=.non∧Q (.ref x) H2) E) :
  wpAny (model X.prog X.w) X.A (call (.ref C) us) (EP X pins σ Q) X.xe s:=by
 have hq:=h (s.heap.objs.size+1) s.heap.objs.size (I.hok.fresh (Nat.le_succ _)) (I.hok.fresh (Nat.le_refl _)) (Nat.ne_of_lt (Nat.lt_succ_self _))
 have I2:=Inv.made (C:=C) I
 have r2:Vals (V.ref (s.heap.objs.size+1)::(vs++dvs)) (Value.ref (s.heap.objs.size+1)::(us++ds)):=.cons rfl (r.append hd)
 have hl:(Value.ref (s.heap.objs.size+1)::us++ds).length=ps.length:=by
  have e:=r2.length
  rw[F.len _ _ _ _ hq]at e
  exact e.symm
 refine wpAny_call (aaf (f:=f) I.kIn M.makes M.init (beq_iff_eq.mp M.fn) (codeAny_mono (F.run _ X.stack _ _ ⟨Value.ref (s.heap.objs.size+1)::us,[]⟩ (Value.ref (s.heap.objs.size+1)::(us++ds)) _ _ E (hr.make C us [])
  (I2.env0.make C us []) (hb _ (Value.ref (s.heap.objs.size+1)::us) I2.kIn hl) r2 hq) fun r s' hq'=>?_))
 cases r with
 |error e=>exact hx pins σ _ _ e s' I2 hq'
 |ok fl =>
  cases fl with
  |ret u =>
   obtain⟨v,H',I3,rv,ev,q3⟩:=I2.after hq'
   subst ev
   exact⟨rv,⟨V.ref (s.heap.objs.size+1),H',I3,rfl,q3⟩⟩
  |next=>exact False.elim hq'
  |brk=>exact False.elim hq'
  |cont=>exact False.elim hq'
theorem abW(M:Mk X.K C f)(F:bD X.prog X.w X.K X.mg X.base CX k f fd ps sp)(hr:jx (k+1) X.A)(hg:Gl X x)(hm:X.mg x=some (.ref C))(hb:Binds X.K fd ps ds)(hd:Vals dvs ds)(hx:Passes CX X E)
  (ha:PA X (e::es) t) (hdb:(x==("__debug__" : Str))=false:=by decide) (he:starEach (e::es) X.env=(false,eval e X.env)::starEach es X.env:=by rfl) (hpl:(backTo pos (starEach es X.env)).any (·.1)=false:=by rfl) :
  PE X (.Call (.Name x p) (e::es) [] pos) (Ol C sp dvs E t):=by
 intro pins s σ H Q I h
 refine wpAny_Call_Name_kw (IW I hg hm ?_ hdb)
 refine PySem.W.callWith_K (h₀:=X.base) I.ok.mod.kin M.kp (thn (ha pos pins s σ H _ I h) fun us s1 ⟨vs,H1,I1,r,q⟩=>⟨I1.kIn,?_⟩) he hpl
 exact Td M F hr hb hd hx I1 r q
theorem aaz(M:Mk X.K C f)(F:bD X.prog X.w X.K X.mg X.base CX k f fd ps sp)(hr:jx (k+1) X.A)(hg:Gl X x)(hm:X.mg x=some (.ref C))(hb:Binds X.K fd ps ds)(hd:Vals dvs ds)(hx:Passes CX X E)
  (hdb:(x==("__debug__" : Str))=false:=by decide):PE X (.Call (.Name x p) [] [] pos) (Ol C sp dvs E eV):=by
 intro pins s σ H Q I h
 refine wpAny_Call_Name_kw (IW I hg hm ?_ hdb)
 exact PySem.W.callWith_K0 I.kIn M.kp (Td (us:=[]) M F hr hb hd hx I .nil h)
end
def PK(X:Cx)(kws:List Keyword)(t:TA):Prop :=
 ∀(pos:Pos) (pins:List (Addr×Obj)) (s:Shared) (σ:St) (H:Hp) (Q:List V→Hp→Prop),Inv X pins σ H s→t σ H Q→wpAny (model X.prog X.w) X.A (evalAll ((backToKw pos (keywordEach kws X.env)).map (·.2))) (AP X pins σ Q) X.xe s
section
variable {X:Cx}{CX:CXT}{k:Nat}{f C:Addr}{fd:FuncData}{ps ks:List Str}{sp:Sp}{E:XK}{x m:Str}{p pos apos kpos:Pos}{e o:Expr}{es:List Expr}{kws:List Keyword}{te ta:TE}{t tk:TA}{nm:Option Str}
theorem aaE:PK X [] eV:=fun _ _ _ _ H Q I h=>wpAny_evalAll_nil ⟨[],H,I,.nil,h⟩
theorem QH(ha:PE X e te)(hr:PK X kws t):PK X (⟨nm,e,kpos⟩::kws) (bw te t):=by
 intro pos pins s σ H Q I h
 show wpAny _ _ (evalAll ((do let v ← eval e X.env;standAt pos;pure v)::(backToKw pos (keywordEach kws X.env)).map (·.2))) _ _ s
 refine wpAny_evalAll_cons (wpAny_bind (thn (ha pins s σ H _ I h) fun u s1 ⟨x,H1,I1,r1,q1⟩=>wpAny_bind (wpAny_standAt (wpAny_pure ?_))))
 exact thn (hr pos pins s1 σ H1 _ I1 q1) fun us s2 ⟨xs,H2,I2,r2,q2⟩=>⟨x::xs,H2,I2,.cons r1 r2,q2⟩
variable {g:List Value→List Value→List Value}{gV:List V→List V→List V}
end
structure aG(N P:List Str)(sc:Scope):Prop where
 kind:sc.kind=.function
 co:sc.isCoroutine=false
 gen:sc.isGenerator=false
 nd:N.Nodup
 pre:N.take P.length=P
 par:∀x∈P,sc.names.lookup x=some .local∨sc.names.lookup x=some .cell
 adi:∀y∈sc.names,y.2≠.free
theorem Np{kindOf:Str→Option NameKind}{x:Str}:∀{binds:List (Str×Value)} {m:Str→Option Value},(∀v,(x,v)∉binds)→bindL kindOf binds m x=m x
 |[],_,_=>rfl
 |(n,v)::r,m,h=>by
  unfold bindL
  rw[Np fun w hw=>h w (List.mem_cons_of_mem _ hw)]
  split
  ·have:x≠n:=by rintro rfl;exact h v List.mem_cons_self
   simp[this]
  ·rfl
theorem Nk{kindOf:Str→Option NameKind}{x:Str}:∀{binds:List (Str×Value)} {m:Str→Option Value},(∀v,(x,v)∉binds)→bindC kindOf binds m x=m x
 |[],_,_=>rfl
 |(n,v)::r,m,h=>by
  unfold bindC
  rw[Nk fun w hw=>h w (List.mem_cons_of_mem _ hw)]
  split
  ·rfl
  ·have:x≠n:=by rintro rfl;exact h v List.mem_cons_self
   simp[this]
theorem Nm{kindOf:Str→Option NameKind}{x:Str}{v:Value}:∀{P:List Str} {vs:List Value} {i:Nat} {m:Str→Option Value},P.Nodup→P[i]?=some x→vs[i]?=some v→kindOf x=some .local →
  bindL kindOf (P.zip vs) m x=some v
 |[],_,_,_,_,h,_,_=>by simp at h
 |_::_,[],_,_,_,_,h,_=>by simp at h
 |p::P,w::vs,0,m,nd,h1,h2,hk=>by
  simp at h1 h2;subst h1;subst h2
  show bindL kindOf ((p,w)::P.zip vs) m p=_
  unfold bindL
  rw[Np fun v hv=>(List.nodup_cons.mp nd).1 (List.of_mem_zip hv).1,if_pos hk]
  simp
 |p::P,w::vs,i+1,m,nd,h1,h2,hk=>by
  show bindL kindOf ((p,w)::P.zip vs) m x=_
  unfold bindL
  exact Nm (i:=i) (List.nodup_cons.mp nd).2 (by simpa using h1) (by simpa using h2) hk
theorem Nj{kindOf:Str→Option NameKind}{x:Str}{v:Value}:∀{P:List Str} {vs:List Value} {i:Nat} {m:Str→Option Value},P.Nodup→P[i]?=some x→vs[i]?=some v→kindOf x≠some .local →
  bindC kindOf (P.zip vs) m x=some v
 |[],_,_,_,_,h,_,_=>by simp at h
 |_::_,[],_,_,_,_,h,_=>by simp at h
 |p::P,w::vs,0,m,nd,h1,h2,hk=>by
  simp at h1 h2;subst h1;subst h2
  show bindC kindOf ((p,w)::P.zip vs) m p=_
  unfold bindC
  rw[Nk fun v hv=>(List.nodup_cons.mp nd).1 (List.of_mem_zip hv).1,if_neg hk]
  simp
 |p::P,w::vs,i+1,m,nd,h1,h2,hk=>by
  show bindC kindOf ((p,w)::P.zip vs) m x=_
  unfold bindC
  exact Nj (i:=i) (List.nodup_cons.mp nd).2 (by simpa using h1) (by simpa using h2) hk
def start(N:List Str)(vs:List V):St:=vs.map some++List.replicate (N.length - vs.length) none
def Mr(CX:CXT)(P:Program)(w:World)(K:PySem.W.Frag)(mg:Str→Option Value)(base:Heap)(N:List Str)(qual:Str)(scope:Scope)(f:Addr)(cd:Value)(A:Around)(outer:List Env)(s:Shared)(H:Hp)(E:XK):Cx where
 prog:=P
 w:=w
 K:=K
 mg:=mg
 base:=base
 A:=A.deeper (envOfC qual scope s.heap.objs.size f cd)
 N:=N
 s_0:=s
 H_0:=H
 env:=envOfC qual scope s.heap.objs.size f cd
 outer:=outer
 stack:=envOfC qual scope s.heap.objs.size f cd::outer
 ex:=[]
 calm:=true
 fn:=fun _=>true
 pn:=[]
 xe:=fun e s'=>wpAny (model P w) (A.deeper (envOfC qual scope s.heap.objs.size f cd)) (leaving (envOfC qual scope s.heap.objs.size f cd) e) (fun _ s''=>CX outer H s E e s'') (fun e' s''=>CX outer H s E e' s'') s'
theorem Rt{sc:Scope}{n:Nat}{x:Str}(h:sc.names.lookup x=some .cell):∃c,(cellsFrom n sc.names []).lookup x=some c:=by
 have q:=PySem.W.cellsFrom_some sc.names n [] (.inl h)
 exact Option.isSome_iff_exists.mp q
theorem Gm{CX:CXT}{P:Program}{w:World}{K:PySem.W.Frag}{mg:Str→Option Value}{base:Heap}{N ps:List Str}{qual:Str}{scope:Scope}{f:Addr}{cd:Value}{A:Around}{outer:List Env}{s s1:Shared}{H:Hp}{E:XK}{us:List Value}{vs:List V}
  (S:aG N ps scope) (hd:A.handled=none) (e0:T8 P w K mg base A outer s H) (hl:vs.length=ps.length) (r:Vals vs us)
  (x:InCallC s s.heap.objs.size (bindL (envOfC qual scope s.heap.objs.size f cd).kindOf (ps.zip us) fun _=>none) (cellsFrom (s.heap.objs.size+1) scope.names []) (bindC (envOfC qual scope s.heap.objs.size f cd).kindOf (ps.zip us) fun _=>none) s1) :
  Inv (Mr CX P w K mg base N qual scope f cd A outer s H E) [] (start N vs) H s1:=by
 have hpl:ps.length≤N.length:=by have:=congrArg List.length S.pre;rw[List.length_take]at this;omega
 obtain⟨h1,tk,rfl,hk⟩:=x.done
 have noA:∀b:Addr,b∉(Mr CX P w K mg base N qual scope f cd A outer s H E).ex:=fun b z=>absurd (show b∈([]:List Addr)from z) (by simp)
 refine⟨⟨e0.mod,S.kind,rfl,rfl,Nat.le_refl _,fun y z c h1 h2=>?_,fun y hy=>?_,fun y c _ h=>?_,fun _=>hd,Around.frames_deeper e0.frames,.inr ⟨rfl,rfl⟩,fun b z=>absurd z (noA b),e0.bs,e0.bsz,fun b _ _=>noA b,fun b z=>absurd z (noA b),e0.En,e0.frf⟩,
  rfl,e0.bare,Un.kept hk,⟨_,x.toInCall.ns,fun i y v h1 h2 h3=>?_⟩,fun y c h=>⟨_,x.cell y c h⟩,e0.hok.fresh (Nat.le_refl _),fun y c h=>?_,fun p hp=>absurd (show p∈([]:List (Addr×Obj))from hp) (by simp),e0.hok.kept hk,?_⟩
 ·exact name_of_addr x.apart (PySem.mem_of_lookup h1) (PySem.mem_of_lookup h2)
 ·have hy:scope.names.lookup y=some .cell∨scope.names.lookup y=some .free:=hy
  rcases hy with hy|hy
  ·exact Rt hy
  ·exact absurd rfl (S.adi _ (PySem.mem_of_lookup hy))
 ·exact Nat.le_of_lt (x.above y c (PySem.mem_of_lookup h))
 ·have hi:i<vs.length:=by
   unfold start at h2
   by_cases hi:i<vs.length
   ·exact hi
   ·rw[List.getElem?_append_right (by simpa using hi)]at h2
    rw[List.getElem?_replicate]at h2
    split at h2<;>cases h2
  have ha:vs[i]?=some v:=by
   unfold start at h2
   rw[List.getElem?_append_left (by simpa using hi),List.getElem?_map]at h2
   cases e:vs[i]? with
   |none=>rw[e]at h2;cases h2
   |some a=>rw[e]at h2;cases h2;rfl
  obtain⟨u,hu,rv⟩:=r.get ha
  have hp:ps[i]?=some y:=by
   rw[← S.pre,List.getElem?_take_of_lt (by omega)];exact h1
  have ndP:ps.Nodup:=by rw[← S.pre];exact S.nd.sublist (List.take_sublist _ _)
  refine⟨u,rv,?_⟩
  rcases S.par y (List.mem_of_getElem? hp)with k|k
  ·exact .inl ⟨k,Nm ndP hp hu k⟩
  ·obtain⟨c,e⟩:=Rt (n:=s.heap.objs.size+1) k
   refine .inr ⟨.inl k,c,e,?_⟩
   have q:=x.cell y c e
   rw[Nj ndP hp hu (by show scope.names.lookup y≠_;rw[k];decide)]at q
   exact q
 ·exact e0.hok.fresh (Nat.le_of_lt (x.above y c (PySem.mem_of_lookup h)))
 ·unfold start
  show _=N.length
  rw[List.length_append,List.length_map,List.length_replicate]
  omega
theorem aci{CX:CXT}{P:Program}{w:World}{K:PySem.W.Frag}{mg:Str→Option Value}{base:Heap}{k:Nat}{f:Addr}{name qual:Str}{params:Arguments}{body:List Stmt}{scope:Scope}{dV kV doc pm cdv ct oc:Value}{an od:Option Addr}
  {osl:Array (Option Value)} {N ps:List Str} {sp:Sp} (lk:K.lookup f=some ⟨oc,od,.func (PySem.W.fnOf name qual params body scope dV kV doc pm an cdv ct),osl⟩) (hcd:PySem.W.codeIn K cdv qual=true) (S:aG N ps scope)
  (len:∀vs H Q E,sp vs H Q E→vs.length=ps.length)
  (hbody:∀(A:Around) (outer:List Env) (s:Shared) (H:Hp) (vs:List V) (Q:VK) (E:XK),jx k (A.deeper (envOfC qual scope s.heap.objs.size f cdv))→sp vs H Q E →
   ∃t,PSs (Mr CX P w K mg base N qual scope f cdv A outer s H E) body t∧t {nx:=fun _ H'=>Q .non H',rt:=Q} (start N vs) H) :
  bD P w K mg base CX (k+1) f (PySem.W.fnOf name qual params body scope dV kV doc pm an cdv ct) ps sp:=by
 refine⟨len,fun A outer s H args us vs Q E hr e0 hb r hsp=>?_⟩
 have hl:=len _ _ _ _ hsp
 have KX:K.In s.heap:=e0.mod.kin.keeps fun b o e=>(e0.bs b o e).1
 have lim:s.heap.NoLimit:=e0.mod.nolimit.keeps fun b o e=>(e0.bs b o e).1
 have hkind:∀y∈ps.zip us,scope.names.lookup y.1=some .local∨(scope.names.lookup y.1=some .cell∧((cellsFrom (s.heap.objs.size+1) scope.names []).lookup y.1).isSome=true):=fun⟨n,v⟩ hy=>by
  rcases S.par n (List.of_mem_zip hy).1 with q|q
  ·exact .inl q
  ·exact .inr ⟨q,PySem.W.cellsFrom_some _ _ _ (.inl q)⟩
 refine codeAny_call_function hr.depth (KX _ _ lk) rfl S.co S.gen rfl (PySem.W.codeRec_of KX hcd) (hb _ _ _ _ ?_)
 refine wpAny_newFunctionEnv_cells S.kind hkind fun env he s1 x=>?_
 subst he
 refine⟨lim.keeps x.toInCall.keep,codeAny_func ?_⟩
 obtain⟨t,ht,hq⟩:=hbody A outer s H vs Q E (hr.deeper _) hsp
 have I:Inv (Mr CX P w K mg base N qual scope f cdv A outer s H E) [] (start N vs) H s1:=Gm S hr.hd e0 hl r x
 refine wpAny_mono (ht [] s1 (start N vs) H _ I hq) (fun fl s' hs=>?_) fun e s' hs=>hs
 have fin:∀{σ':St} {H':Hp} {v:V} {u:Value},Inv (Mr CX P w K mg base N qual scope f cdv A outer s H E) [] σ' H' s'→RelV v u→Q v H'→CE outer P w H s Q u s' :=
  fun{σ' H' v u} J rv q=>⟨v,H',J.os,J.bare,J.base,J.hok,rv,q⟩
 cases fl with
 |ret u =>
  obtain⟨v,σ',H',J,rv,q⟩:=hs
  exact fin J rv q
 |next =>
  obtain⟨σ',H',J,q⟩:=hs
  exact fin (v:=V.non) (u:=Value.none) J rfl q
 |brk =>
  obtain⟨_,_,_,q⟩:=hs
  exact False.elim q
 |cont =>
  obtain⟨_,_,_,q⟩:=hs
  exact False.elim q
end L2
namespace L2
open PySem PySem.Spec PyProof.Rows
section
variable {X:Cx}{x:Str}{p pos:Pos}{e:Expr}{es:List Expr}{t:TA}{id T:String}{r:List V→Hp→VK→Prop}
def tCB(r:List V→Hp→VK→Prop)(t:TA):TE:=fun σ H Q=>t σ H fun vs H1=>r vs H1 Q
theorem bR(hc:yI X (.builtin id) r)(hg:Gl X x)(hm:X.mg x=none)(hv:bootBuiltins x=some (.builtin id))(ha:PA X (e::es) t)(hn:x≠"__name__":=by decide)(hdb:(x==("__debug__" : Str))=false:=by decide)
  (he:starEach (e::es) X.env=(false,eval e X.env)::starEach es X.env:=by rfl) (hpl:(backTo pos (starEach es X.env)).any (·.1)=false:=by rfl):PE X (.Call (.Name x p) (e::es) [] pos) (tCB r t):=by
 intro pins s σ H Q I h
 refine wpAny_Call_Name_kw (CV I hg hm hv ?_ hn hdb)
 exact PyProof.Rows.callWith_builtin1 (thn (ha pos pins s σ H _ I h) fun us s1 ⟨vs,H1,I1,r1,q1⟩=>hc pins s1 σ H1 vs us Q I1 r1 q1) he hpl
theorem mV(hc:yI X (.type T) r)(hg:Gl X x)(hm:X.mg x=none)(hv:bootBuiltins x=some (.type T))(ha:PA X (e::es) t)(hn:x≠"__name__":=by decide)(hdb:(x==("__debug__" : Str))=false:=by decide)
  (he:starEach (e::es) X.env=(false,eval e X.env)::starEach es X.env:=by rfl) (hpl:(backTo pos (starEach es X.env)).any (·.1)=false:=by rfl):PE X (.Call (.Name x p) (e::es) [] pos) (tCB r t):=by
 intro pins s σ H Q I h
 refine wpAny_Call_Name_kw (CV I hg hm hv ?_ hn hdb)
 exact PyProof.Rows.callWith_type1 (thn (ha pos pins s σ H _ I h) fun us s1 ⟨vs,H1,I1,r1,q1⟩=>hc pins s1 σ H1 vs us Q I1 r1 q1) he hpl
end
end L2
namespace HT
open PySem PyProof.Rows
def lexLt:List Int→List Int→Bool
 |[],[]=>false
 |[],_::_=>true
 |_::_,[]=>false
 |x::xs,y::ys=>if x=y then lexLt xs ys else decide (x<y)
theorem jH(x y:Int)(xs ys:List Int):lexLt (x::xs) (y::ys)=if x=y then lexLt xs ys else decide (x<y):=rfl
theorem Cd:lexLt [] []=false:=rfl
theorem Kc(y:Int)(ys:List Int):lexLt [] (y::ys)=true:=rfl
theorem Ka(x:Int)(xs:List Int):lexLt (x::xs) []=false:=rfl
theorem Zu(A:Around)(s:Shared)(a:Int)(t:Tok)(c:Int)(u:Tok):∃e,SeqAt.EqAt A s (.int a t) (.int c u) e∧(e=true↔a=c) :=
 ⟨(a==c),SeqAt.EqAt.int_int a t c u,by simp⟩
theorem S_(A:Around)(s:Shared)(a:Int)(t:Tok)(c:Int)(u:Tok)(prog:Program)(w:World)(E:Value→Shared→Prop)(Q:Value→Shared→Prop)(h:Q (.bool (decide (a<c))) s) :
  wpAny (model prog w) A (richCompare .Lt (.int a t) (.int c u)) Q E s :=
 (PyProof.Rows.lt_int h:wpAny (model prog w) A (compareOp .Lt (.int a t) (.int c u)) Q E s)
section
open PySem.SeqAt
open PySem.AutoSeq1 (wpAny_loadPart')
open PySem.MeetsSeq PySem.MeetsSeq2 PySem.MeetsSeq3
theorem Ng(l b:Addr)(items items2:Array Value)(n n2:Nat)(dd dd2:Option Addr)(sl sl2:Array (Option Value))(ns ms:List Int)(hi:IntsAre items.toList ns)(hj:IntsAre items2.toList ms) :
  Meets (Builtin.«tuple.__lt__» ⟨[.ref l,.ref b],[]⟩)
   (fun _ R s=>s.heap.get? l=some {cls:=.type "tuple",dict:=dd,data:=.seq items n,slots:=sl}∧s.heap.get? b=some {cls:=.type "tuple",dict:=dd2,data:=.seq items2 n2,slots:=sl2} ∧
    R (.ok (.ret (.bool (lexLt ns ms)))) s) :=
 .of_wp fun prog w A R s h=>by
  obtain⟨hp,g,d,tk,os⟩:=s;obtain⟨hl,hb,h⟩:=h
  have f2:=AutoSeq1.sub_tuple_tuple
  have z1:items.size=ns.length:=by rw[← hi.length];simp
  have z2:items2.size=ms.length:=by rw[← hj.length];simp
  wp_walk using wpAny_loadPart' hl,wpAny_loadPart' hb,wpAny_forIn_list _ (fun rest b s'=>b.1=none∧s'=⟨hp,g,d,tk,os⟩∧∃(vs ws:List Value) (ns' ms':List Int),rest=vs.zip ws ∧
   IntsAre vs ns'∧IntsAre ws ms'∧ns'.length+items2.size=ms'.length+items.size∧R (.ok (.ret (.bool (lexLt ns' ms')))) ⟨hp,g,d,tk,os⟩) _
  case turn =>
   rintro⟨y,x⟩ rest b s' ⟨hb',rfl,vs,ws,ns',ms',hz,hvi,hwi,hlen,hR⟩
   cases hvi with
   |nil=>rw[List.zip_nil_left]at hz;cases hz
   |cons a t hvi' =>
    cases hwi with
    |nil=>rw[List.zip_nil_right]at hz;cases hz
    |cons c u hwi' =>
     rw[List.zip_cons_cons]at hz
     injection hz with hyx hrest
     injection hyx with hy hx
     subst hy hx
     rw[jH]at hR
     simp only[List.length_cons]at hlen
     obtain⟨e,he,hiff⟩:=Zu A.in1 ⟨hp,g,d,tk,os⟩ a t c u
     refine wpAny_bind (he prog w _ _ ?_)
     cases e with
     |true =>
      rw[if_pos (hiff.mp rfl)]at hR
      wp_walk
      exact⟨rfl,rfl,_,_,_,_,hrest,hvi',hwi',by omega,hR⟩
     |false =>
      rw[if_neg (fun q=>absurd (hiff.mpr q) Bool.false_ne_true)]at hR
      have hri:=S_ A.in1 ⟨hp,g,d,tk,os⟩ a t c u prog w
      wp_walk using hri
      exact⟨_,rfl,by simpa using hR⟩
  case fin =>
   rintro⟨b1,b2⟩ s' ⟨hb',rfl,vs,ws,ns',ms',hz,hvi,hwi,hlen,hR⟩
   simp only at hb'
   subst hb'
   have hv:lexLt ns' ms'=decide (items.size<items2.size):=by
    cases hvi with
    |nil =>
     cases hwi with
     |nil =>
      simp only[List.length_nil]at hlen
      rw[Cd]
      exact(decide_eq_false (by omega)).symm
     |cons c u hw =>
      simp only[List.length_nil,List.length_cons]at hlen
      rw[Kc]
      exact(decide_eq_true (by omega)).symm
    |cons a t hv =>
     cases hwi with
     |nil =>
      simp only[List.length_nil,List.length_cons]at hlen
      rw[Ka]
      exact(decide_eq_false (by omega)).symm
     |cons c u hw =>
      rw[List.zip_cons_cons]at hz
      cases hz
   rw[hv]at hR
   wp_walk
   exact⟨_,rfl,by simpa [Builtin.Tuple.tupleCompareSizes]using hR⟩
  case h =>
   exact⟨rfl,rfl,items.toList,items2.toList,ns,ms,rfl,hi,hj,by omega,h⟩
end
section
variable {prog:Program}{w:World}{A:Around}{E:Value→Shared→Prop}{s:Shared}
theorem Vi{l b:Addr}{items items2:Array Value}{ns ms:List Int}{Q:Value→Shared→Prop}(hl:IsTup s.heap l items)(hb:IsTup s.heap b items2)(hi:IntsAre items.toList ns)(hj:IntsAre items2.toList ms)
  (hu:A.units<cLine) (h:Q (.bool (lexLt ns ms)) s):wpAny (model prog w) A (compareOp .Lt (.ref l) (.ref b)) Q E s:=by
 obtain⟨⟨cls,dd,data,sl⟩,ho,hc,n,hd⟩:=id hl
 obtain⟨⟨cls2,dd2,data2,sl2⟩,ho2,hc2,n2,hd2⟩:=id hb
 simp only at hc hd hc2 hd2
 subst hc hd hc2 hd2
 exact richCompare_meets_room (op:=.Lt) ⟨_,ho,rfl⟩ ⟨_,ho2,rfl⟩ PySem.F.slot_tuple_lt PySem.F.entry_tuple_lt (PySem.F.args_tuple_lt_2 _ _) (Ng l b items items2 n n2 dd dd2 sl sl2 ns ms hi hj)
  ⟨ho,ho2,show Value.bool (lexLt ns ms)≠Value.notImplemented∧Q (.bool (lexLt ns ms)) s from⟨(fun x=>nomatch x),h⟩⟩ hu
def sIx(n d:Nat):Option Int→Nat
 |none=>d
 |some v=>if v<0 then (v+(n:Int)).toNat else min v.toNat n
theorem Xd(n d k:Nat):sIx n d (some (k:Int))=min k n:=by
 show(if (k:Int)<0 then ((k:Int)+(n:Int)).toNat else min (k:Int).toNat n)=min k n
 rw[if_neg (by omega),Int.toNat_natCast]
end
end HT
namespace L2
open PySem PySem.Spec PyProof.Rows
abbrev TO:=St→Hp→(Option Int→Hp→Prop)→Prop
def PO(X:Cx)(e:Option Expr)(t:TO):Prop :=
 ∀(pins:List (Addr×Obj)) (s:Shared) (σ:St) (H:Hp) (Q:Option Int→Hp→Prop),Inv X pins σ H s→t σ H Q →
  wpAny (model X.prog X.w) X.A (evalPart e X.env) (fun u s'=>∃o H',Inv X pins σ H' s'∧IsPart u o∧Q o H') X.xe s
def aa4(t:TE):TO:=fun σ H Q=>t σ H fun x H1=>∃i,x=.int i∧Q (some i) H1
theorem intsAre_of{ns:List Int}:∀{us:List Value},Vals (ns.map V.int) us→IntsAre us ns:=by
 induction ns with
 |nil=>intro us r;rw[List.map_nil]at r;cases r;exact .nil
 |cons n ns ih =>
  intro us r
  rw[List.map_cons]at r
  cases r with
  |cons r1 r2 =>
   obtain⟨t,e⟩:=r1
   subst e
   exact .cons n t (ih r2)
section
variable {X:Cx}{e:Expr}{te:TE}{lo hi:Option Expr}{tl th:TO}{pos p2:Pos}
theorem W9(h:PE X e te):PO X (some e) (aa4 te):=by
 intro pins s σ H Q I hw
 rw[evalPart_some]
 refine thn (h pins s σ H _ I hw) fun u s1 ⟨x,H1,I1,r1,q1⟩=>?_
 obtain⟨i,rfl,q⟩:=q1
 obtain⟨t,rfl⟩:=r1
 exact⟨some i,H1,I1,.int i t,q⟩
def SlR(X:Cx)(r:V→Option Int→Option Int→Hp→VK→Prop):Prop :=
 ∀(pins:List (Addr×Obj)) (s:Shared) (σ:St) (H:Hp) (x:V) (v vl vu:Value) (lo hi:Option Int) (sl:Addr) (Q:VK),Inv X pins σ H s→RelV x v→s.heap.IsSliceOf sl vl vu .none→IsPart vl lo→IsPart vu hi→r x lo hi H Q →
  ∃T id,typeLookup (.type T) "__getitem__" = pure (some (.builtin id))∧s.TypeIs v T∧wpAny (model X.prog X.w) X.A (getItem v (.ref sl)) (EP X pins σ Q) X.xe s
def tSl(r:V→Option Int→Option Int→Hp→VK→Prop)(te:TE)(tl th:TO):TE:=fun σ H Q=>te σ H fun x H1=>tl σ H1 fun l H2=>th σ H2 fun u H3=>r x l u H3 Q
theorem aaD{r:V→Option Int→Option Int→Hp→VK→Prop}(hr:SlR X r)(he:PE X e te)(hl:PO X lo tl)(hu:PO X hi th):PE X (.Subscript e (.Slice lo hi none p2) pos) (tSl r te tl th):=by
 intro pins s σ H Q I h
 refine Subscript_ (thn (he pins s σ H _ I h) fun v s1 ⟨x,H1,I1,r1,q1⟩=>?_)
 refine wpAny_Slice (thn (hl pins s1 σ H1 _ I1 q1) fun vl s2 ⟨l,H2,I2,pl,q2⟩=>thn (hu pins s2 σ H2 _ I2 q2) fun vu s3 ⟨u,H3,I3,pu,q3⟩=>?_)
 rw[evalPart_none]
 refine wpAny_pure ?_
 have I4:Inv X pins σ H3 {s3 with heap:=s3.heap.push {cls:=.type "slice",data:=.fields #[vl,vu,.none]}}:=I3.kept (t':=s3.toks) fun b ob q=>Heap.get?_push_of_some _ q
 obtain⟨T,id,hT,ht,hg⟩:=hr pins {s3 with heap:=s3.heap.push {cls:=.type "slice",data:=.fields #[vl,vu,.none]}} σ H3 x v vl vu l u s3.heap.objs.size Q I4 r1 (Heap.IsSliceOf.new ..) pl pu q3
 show wpAny (model X.prog X.w) X.A (subscriptTail e (.Slice lo hi none p2) v (.ref s3.heap.objs.size)) (EP X pins σ Q) X.xe {s3 with heap:=s3.heap.push {cls:=.type "slice",data:=.fields #[vl,vu,.none]}}
 exact tail_any (ops:=[.ref s3.heap.objs.size,v]) ht hT hg (by with_unfolding_all rfl)
def Zn(xs:List V)(lo hi:Option Int):List V:=(xs.drop (HT.sIx xs.length 0 lo)).take (HT.sIx xs.length xs.length hi - HT.sIx xs.length 0 lo)
theorem Rx(xs:List V)(lo hi:Option Int):(Zn xs lo hi).length≤xs.length:=by
 unfold Zn
 rw[List.length_take,List.length_drop]
 omega
end
end L2
namespace L2
open PySem PySem.Spec PyProof.Rows
def ixN(n:Nat)(i:Int):Option Nat:=if 0≤i then (if i<n then some i.toNat else none)else if -(n:Int)≤i then some (i+n).toNat else none
def atI{α:Type}(xs:List α)(i:Int):Option α:=(ixN xs.length i).bind fun j=>xs[j]?
theorem abF{n:Nat}{i:Int}{j:Nat}(h:ixN n i=some j):seqIndex? i n=some j∧j<n∧-(n:Int)≤i∧i<n:=by
 unfold ixN at h
 by_cases h0:0≤i
 ·rw[if_pos h0]at h
  by_cases h1:i<n
  ·rw[if_pos h1]at h
   have e:i.toNat=j:=Option.some.inj h
   exact⟨by rw[seqIndex_of h0 h1,e],by omega,by omega,h1⟩
  ·rw[if_neg h1]at h;cases h
 ·rw[if_neg h0]at h
  by_cases h1:-(n:Int)≤i
  ·rw[if_pos h1]at h
   have e:(i+n).toNat=j:=Option.some.inj h
   exact⟨by rw[seqIndex_neg (by omega) h1,e],by omega,h1,by omega⟩
  ·rw[if_neg h1]at h;cases h
theorem O6{α:Type}{xs:List α}{i:Int}{v:α}(h:atI xs i=some v):∃j,seqIndex? i xs.length=some j∧xs[j]?=some v∧j<xs.length∧-(xs.length:Int)≤i∧i<xs.length:=by
 unfold atI at h
 cases e:ixN xs.length i with
 |none=>rw[e]at h;cases h
 |some j =>
  rw[e]at h
  obtain⟨h1,h2,h3,h4⟩:=abF e
  exact⟨j,h1,h,h2,h3,h4⟩
theorem O7{α:Type}{xs:List α}{j:Nat}{v:α}(h:xs[j]?=some v):atI xs (j:Int)=some v:=by
 have hj:j<xs.length:=(List.getElem?_eq_some_iff.mp h).1
 have e:ixN xs.length (j:Int)=some j:=by
  unfold ixN
  rw[if_pos (by omega),if_pos (by omega)];simp
 unfold atI;rw[e];exact h
def abh(b:Expr):Prop:=∀o i,subscripted b false o i=operate [o,i] (getItem o i)
def IxR(X:Cx)(r:R2):Prop :=
 ∀(value slice:Expr) (pins:List (Addr×Obj)) (s:Shared) (σ:St) (H:Hp) (x y:V) (v u:Value) (Q:VK),Inv X pins σ H s→RelV x v→RelV y u→r x y H Q →
  subscripted slice false v u=operate [v,u] (getItem v u)→wpAny (model X.prog X.w) X.A (subscriptTail value slice v u) (EP X pins σ Q) X.xe s
def MtR(X:Cx)(id:String)(r:V→List V→Hp→VK→Prop):Prop :=
 ∀(pins:List (Addr×Obj)) (s:Shared) (σ:St) (H:Hp) (x:V) (xs:List V) (v:Value) (us:List Value) (Q:VK),Inv X pins σ H s→RelV x v→Vals xs us→r x xs H Q →
  wpAny (model X.prog X.w) X.A (call (.builtin id) (v::us)) (EP X pins σ Q) X.xe s
section
variable {X:Cx}{a b:Expr}{ta tb:TE}{pos:Pos}
theorem IxR.or{r r':R2}(h:IxR X r)(h':IxR X r'):IxR X (fun x y H Q=>r x y H Q∨r' x y H Q):=by
 intro value slice pins s σ H x y v u Q I rx ry q hs
 rcases q with q|q
 ·exact h value slice pins s σ H x y v u Q I rx ry q hs
 ·exact h' value slice pins s σ H x y v u Q I rx ry q hs
theorem cZ{r:R2}(hr:IxR X r)(ha:PE X a ta)(hb:PE X b tb)(hs:abh b):PE X (.Subscript a b pos) (tOp r ta tb):=by
 intro pins s σ H Q I h
 exact Subscript_ (acL ha hb I h fun v u s2 x y H2 I2 rx ry q=>hr a b pins s2 σ H2 x y v u Q I2 rx ry q (hs _ _))
def ad6(K:PySem.W.Frag):R2:=fun x y H Q=>∃p xs i v,x=.ref p∧y=.int i∧SqL K H p xs∧atI xs i=some v∧Q v H
def ad8(K:PySem.W.Frag):R2:=fun x y H Q=>∃p xs i v,x=.ref p∧y=.int i∧SqT K H p xs∧atI xs i=some v∧Q v H
def ad7:R2:=fun x y H Q=>∃z i c,x=.str z∧y=.int i∧z.length≤sizeLine∧atI z.cps.toList i=some c∧Q (.str ⟨#[c]⟩) H
theorem abG:IxR X (ad6 X.K):=by
 intro value slice pins s σ H x y v u Q I rx ry h hs
 obtain⟨p,xs,i,z,rfl,rfl,hq,he,q⟩:=h
 cases rx
 obtain⟨t,rfl⟩:=ry
 obtain⟨its,r,pl,hz⟩:=I.list hq
 obtain⟨j,h1,h2,h3,h4,h5⟩:=O6 he
 obtain⟨w,ew,rw'⟩:=r.get h2
 have hl:=r.length
 have hn:=Qs
 have fin:EP X pins σ Q w s:=⟨z,H,I,rw',q⟩
 by_cases h0:0≤i
 ·have hj:i.toNat=j:=by
   rw[seqIndex_of h0 h5]at h1
   exact Option.some.inj h1
  exact item_listR pl.isList h0 (by omega) (by rw[hj];simpa using ew) fin hs
 ·have hj:(i+(its.toArray.size:Int)).toNat=j:=by
   rw[seqIndex_neg (by omega) h4]at h1
   rw[List.size_toArray,← hl]
   exact Option.some.inj h1
  exact subscriptTail_builtinR (x:=w) pl.isList.typeIs slot_list_getitem.lookup
   (wpAny_getItem_list_neg (Q:=fun r s'=>r=w∧EP X pins σ Q r s') pl.isList (by omega) (by rw[List.size_toArray]<;>omega) (by omega) (by rw[hj];simpa using ew) ⟨rfl,fin⟩) hs
theorem ac3:IxR X (ad8 X.K):=by
 intro value slice pins s σ H x y v u Q I rx ry h hs
 obtain⟨p,xs,i,z,rfl,rfl,hq,he,q⟩:=h
 cases rx
 obtain⟨t,rfl⟩:=ry
 obtain⟨its,r,pl,hz⟩:=I.tuple hq
 obtain⟨j,h1,h2,h3,h4,h5⟩:=O6 he
 obtain⟨w,ew,rw'⟩:=r.get h2
 have hl:=r.length
 have hn:=Qs
 have fin:EP X pins σ Q w s:=⟨z,H,I,rw',q⟩
 exact subscriptTail_builtinR (x:=w) pl.typeIs slot_tuple_getitem.lookup
  (getItem_tuple (j:=j) (Q:=fun r s'=>r=w∧EP X pins σ Q r s') pl (by omega) (by omega) (by rw[List.size_toArray,← hl];exact h1) (by simpa using ew) ⟨rfl,fin⟩) hs
theorem ac2:IxR X ad7:=by
 intro value slice pins s σ H x y v u Q I rx ry h hs
 obtain⟨z,i,c,rfl,rfl,hz,he,q⟩:=h
 obtain⟨t,rfl⟩:=rx
 obtain⟨t',rfl⟩:=ry
 obtain⟨j,h1,h2,h3,h4,h5⟩:=O6 he
 have hl:z.cps.toList.length=z.length:=by simp[Str.length]
 rw[hl]at h1 h4 h5
 have hn:=Qs
 exact tail_any (typeIs_str s z t) slot_str_getitem.lookup (getItem_str (c:=c) (by
  have e1:decide (i < -(2 ^ 63:Int))=false:=decide_eq_false (by omega)
  have e2:decide (i≥2 ^ 63)=false:=decide_eq_false (by omega)
  rw[e1,e2,Bool.or_false]) (by rw[h1];simpa using h2) ⟨.str ⟨#[c]⟩,H,I.tok _,⟨_,rfl⟩,q⟩) hs
def rIx(K:PySem.W.Frag):R2:=fun x y H Q=>ad6 K x y H Q∨ad8 K x y H Q∨ad7 x y H Q
theorem ac1:IxR X (rIx X.K):=abG.or (ac3.or ac2)
theorem QV(lo hi:Option Int)(n:Nat):(sliceBounds lo hi none n).1=((HT.sIx n 0 lo:Nat):Int)∧(sliceBounds lo hi none n).2.1=((HT.sIx n n hi:Nat):Int)∧(sliceBounds lo hi none n).2.2=1:=by
 refine⟨?_,?_,rfl⟩
 ·cases lo with
  |none=>simp[sliceBounds,HT.sIx]
  |some i =>
   simp only[sliceBounds,HT.sIx,Option.getD_none,show(1:Int)>0 by decide,if_true]
   by_cases h:i<0
   ·simp only[h,if_true]<;>omega
   ·simp only[h,if_false]<;>omega
 ·cases hi with
  |none=>simp[sliceBounds,HT.sIx]
  |some i =>
   simp only[sliceBounds,HT.sIx,Option.getD_none,show(1:Int)>0 by decide,if_true]
   by_cases h:i<0
   ·simp only[h,if_true]<;>omega
   ·simp only[h,if_false]<;>omega
theorem M_(its:List Value)(lo hi:Option Int):slicePick its.toArray lo hi none=((its.drop (HT.sIx its.length 0 lo)).take (HT.sIx its.length its.length hi - HT.sIx its.length 0 lo)).toArray:=by
 obtain⟨h1,h2,h3⟩:=QV lo hi its.toArray.size
 unfold slicePick
 rw[h1,h2,h3]
 simp only[sliceRange_one,pick_run,List.size_toArray]<;>rfl
def ad9(K:PySem.W.Frag):V→Option Int→Option Int→Hp→VK→Prop:=fun x lo hi H Q=>∃a xs,x=.ref a∧SqL K H a xs∧∀p,H p=none→Q (.ref p) (upd H p (.lst (Zn xs lo hi)))
theorem ab7:SlR X (ad9 X.K):=by
 intro pins s σ H x v vl vu lo hi sl Q I rx hs pl pu h
 obtain⟨a,xs,rfl,hx,q⟩:=h
 cases rx
 obtain⟨its,r,ht,hz⟩:=I.list hx
 have hlen:=r.length
 refine⟨"list",_,slot_list_getitem.lookup,ht.isList.typeIs,?_⟩
 refine wpAny_getItem_list_slice ht.isList hs pl pu .none (by simp) ?_ (by rw[List.size_toArray]<;>omega)
 rw[M_,← hlen]
 refine⟨.ref s.heap.objs.size,_,I.laid (t':=s.toks) (o:=.lst (Zn xs lo hi)) (fun b ob q=>Heap.get?_push_of_some _ q) (Nat.le_refl _) ?_,rfl,q _ (I.hok.fresh (Nat.le_refl _))⟩
 exact⟨Nat.le_trans (Rx xs lo hi) hz,_,0,(r.drop (HT.sIx xs.length 0 lo)).take (HT.sIx xs.length xs.length hi - HT.sIx xs.length 0 lo),Heap.get?_push_size _ rfl⟩
def t_:V→Bool
 |.non=>true
 |.bl _=>true
 |.int _=>true
 |.str _=>true
 |_=>false
def eqV:V→V→Bool
 |.non,.non=>true
 |.bl a,.bl b=>a==b
 |.bl a,.int b=>(if a then 1 else 0)==b
 |.int a,.bl b=>a==(if b then 1 else 0)
 |.int a,.int b=>a==b
 |.str a,.str b=>a==b
 |_,_=>false
theorem acO{A:Around}{s:Shared}{y x:V}{u v:Value}(ry:RelV y u)(rx:RelV x v)(fy:t_ y=true)(fx:t_ x=true):SeqAt.EqAt A s u v (eqV y x):=by
 cases y with
 |non =>
  cases ry
  cases x with
  |non=>cases rx;exact SeqAt.EqAt.same _
  |bl b=>cases rx;exact SeqAt.EqAt.none_bool b
  |int b=>obtain⟨t,rfl⟩:=rx;exact SeqAt.EqAt.none_int b t
  |str b=>obtain⟨t,rfl⟩:=rx;exact SeqAt.EqAt.none_str b t
  |_=>exact absurd (show false=true from fx) Bool.false_ne_true
 |bl a =>
  cases ry
  cases x with
  |non=>cases rx;exact SeqAt.EqAt.bool_none a
  |bl b=>cases rx;exact SeqAt.EqAt.bool_bool a b
  |int b=>obtain⟨t,rfl⟩:=rx;exact SeqAt.EqAt.bool_int a b t
  |str b=>obtain⟨t,rfl⟩:=rx;exact SeqAt.EqAt.bool_str a b t
  |_=>exact absurd (show false=true from fx) Bool.false_ne_true
 |int a =>
  obtain⟨t',rfl⟩:=ry
  cases x with
  |non=>cases rx;exact SeqAt.EqAt.int_none a t'
  |bl b=>cases rx;exact SeqAt.EqAt.int_bool a t' b
  |int b=>obtain⟨t,rfl⟩:=rx;exact SeqAt.EqAt.int_int a t' b t
  |str b=>obtain⟨t,rfl⟩:=rx;exact SeqAt.EqAt.int_str a t' b t
  |_=>exact absurd (show false=true from fx) Bool.false_ne_true
 |str a =>
  obtain⟨t',rfl⟩:=ry
  cases x with
  |non=>cases rx;exact SeqAt.EqAt.str_none a t'
  |bl b=>cases rx;exact SeqAt.EqAt.str_bool a t' b
  |int b=>obtain⟨t,rfl⟩:=rx;exact SeqAt.EqAt.str_int a t' b t
  |str b=>obtain⟨t,rfl⟩:=rx;exact SeqAt.EqAt.str_str a t' b t
  |_=>exact absurd (show false=true from fx) Bool.false_ne_true
 |_=>exact absurd (show false=true from fy) Bool.false_ne_true
def eqU(x:V)(u:Value):Bool:=match u with
 |.none=>eqV .non x
 |.bool b=>eqV (.bl b) x
 |.int i _=>eqV (.int i) x
 |.str z _=>eqV (.str z) x
 |_=>false
theorem PQ{x y:V}{u:Value}(r:RelV y u)(f:t_ y=true):eqU x u=eqV y x:=by
 cases y with
 |non=>cases r;rfl
 |bl b=>cases r;rfl
 |int i=>obtain⟨t,rfl⟩:=r;rfl
 |str z=>obtain⟨t,rfl⟩:=r;rfl
 |_=>exact absurd (show false=true from f) Bool.false_ne_true
theorem O4{x:V}:∀{xs:List V} {us:List Value},Vals xs us→xs.all t_=true→us.any (eqU x)=xs.any fun y=>eqV y x
 |_,_,.nil,_=>rfl
 |y::xs,u::us,.cons r t,f=>by
  rw[List.all_cons,Bool.and_eq_true]at f
  rw[List.any_cons,List.any_cons,PQ r f.1,O4 t f.2]
theorem Ep{A:Around}{s:Shared}{x:V}{v:Value}(rx:RelV x v)(fx:t_ x=true):∀{xs:List V} {us:List Value},Vals xs us→xs.all t_=true→∀u∈us,SeqAt.EqAt A s u v (eqU x u)
 |_,_,.nil,_=>fun u hu=>by cases hu
 |y::xs,u::us,.cons r t,f=>fun u' hu=>by
  rw[List.all_cons,Bool.and_eq_true]at f
  rcases List.mem_cons.mp hu with rfl|hu
  ·rw[PQ r f.1];exact acO r rx f.1 fx
  ·exact Ep rx fx t f.2 u' hu
def inV(x:V)(xs:List V):Bool:=xs.any fun y=>eqV y x
def rIn(K:PySem.W.Frag)(neg:Bool):R2:=fun x y H Q=>∃p xs,y=.ref p∧(SqL K H p xs∨SqT K H p xs)∧t_ x=true∧xs.all t_=true∧Q (.bl (if neg then !inV x xs else inV x xs)) H
theorem Yy:OpR X (compareOp .In) (rIn X.K false):=by
 intro pins s σ H x y v u Q I rx ry h
 obtain⟨p,xs,rfl,hq,fx,fs,q⟩:=h
 cases ry
 rcases hq with hq|hq
 ·obtain⟨its,r,pl,hz⟩:=I.list hq
  refine SeqAt.in_listAt (eqU x) pl.isList (fun w hw=>Ep rx fx r fs w (by simpa using hw)) ⟨.bl _,H,I,rfl,?_⟩
  rw[show its.toArray.any (eqU x)=its.any (eqU x)by simp,O4 r fs]
  exact q
 ·obtain⟨its,r,pl,hz⟩:=I.tuple hq
  refine SeqAt.in_tupleAt (eqU x) pl (fun w hw=>Ep rx fx r fs w (by simpa using hw)) ⟨.bl _,H,I,rfl,?_⟩
  rw[show its.toArray.any (eqU x)=its.any (eqU x)by simp,O4 r fs]
  exact q
theorem bB:yI X (.builtin "len") (fun xs H Q=>∃p ys,xs=[.ref p]∧(SqL X.K H p ys∨SqT X.K H p ys)∧Q (.int ys.length) H):=by
 intro pins s σ H xs us Q I r h
 obtain⟨p,ys,rfl,hq,q⟩:=h
 obtain⟨u,rfl,rx⟩:=vals1 r
 cases rx
 have hn:=Qs
 rcases hq with hq|hq
 ·obtain⟨its,r',pl,hz⟩:=I.list hq
  have hlen:=r'.length
  exact Calls.call_len_list pl.isList (by simp only[List.size_toArray]<;>omega) ⟨.int ys.length,H,I.tok _,⟨s.toks+1,by rw[List.size_toArray,hlen]⟩,q⟩
 ·obtain⟨its,r',pl,hz⟩:=I.tuple hq
  have hlen:=r'.length
  exact len_tuple pl (by simp only[List.size_toArray]<;>omega) ⟨.int ys.length,H,I.tok _,⟨s.toks+1,by rw[List.size_toArray,hlen]⟩,q⟩
theorem xY:yI X (.type "list") (fun xs H Q=>∃p ys,xs=[.ref p]∧(SqL X.K H p ys∨SqT X.K H p ys)∧∀l,H l=none→Q (.ref l) (upd H l (.lst ys))):=by
 intro pins s σ H xs us Q I r h
 obtain⟨p,ys,rfl,hq,q⟩:=h
 obtain⟨u,rfl,rx⟩:=vals1 r
 cases rx
 have fin:∀(its:List Value),Vals ys its→ys.length≤sizeLine→∀(h':Heap) (c':Nat),(∀b o',s.heap.get? b=some o'→h'.get? b=some o') →
   h'.get? s.heap.objs.size=some {cls:=.type "list",dict:=none,data:=.seq its.toArray c',slots:=#[]}→EP X pins σ Q (.ref s.heap.objs.size) {s with heap:=h'}:=fun its r' hz h' c' kp e =>
  ⟨.ref s.heap.objs.size,_,I.laid (t':=s.toks) kp (Nat.le_refl _) (show ie X.prog X.w _ h' _ (.lst ys)from⟨hz,its,c',r',e⟩),rfl,q _ (I.hok.fresh (Nat.le_refl _))⟩
 rcases hq with hq|hq
 ·obtain⟨its,r',pl,hz⟩:=I.list hq
  have hlen:=r'.length
  obtain⟨o,ho,hc,n,hd⟩:=pl.isList
  exact call_list_seq p (.inl rfl) ho hc hd (fun h' c' kp e=>fin its r' hz h' c' kp e) (by simp only[List.size_toArray]<;>omega)
 ·obtain⟨its,r',pl,hz⟩:=I.tuple hq
  have hlen:=r'.length
  obtain⟨o,ho,hc,n,hd⟩:=pl
  exact call_list_seq p (.inr rfl) ho hc hd (fun h' c' kp e=>fin its r' hz h' c' kp e) (by simp only[List.size_toArray]<;>omega)
def tyV(K:PySem.W.Frag)(T:String)(x:V)(H:Hp):Prop:=match x with
 |.str _=>T = "str"
 |.int _=>T = "int"
 |.ref p=>(T = "list"∧∃xs,SqL K H p xs)∨(T = "tuple"∧∃o,K.lookup p=some o∧o.cls=.type "tuple"∧o.dict=none) ∨
   (T = "dict"∧((∃kvs,H p=some (.dK kvs))∨∃kvs,H p=some (.dT kvs)))∨(T = "set"∧∃S n,H p=some (.set S n))
 |_=>False
theorem adH{pins:List (Addr×Obj)}{σ:St}{H:Hp}{s:Shared}{T:String}{x:V}{v:Value}(I:Inv X pins σ H s)(r:RelV x v)(ty:tyV X.K T x H) :
  s.TypeIs v T∧∀a,v=.ref a→∃ob,s.heap.get? a=some ob∧ob.dict=none:=by
 cases x with
 |str z =>
  obtain⟨t,rfl⟩:=r
  cases (show T = "str" from ty)
  exact⟨typeIs_str s z t,fun _ e=>nomatch e⟩
 |int i =>
  obtain⟨t,rfl⟩:=r
  cases (show T = "int" from ty)
  exact⟨typeIs_int s i t,fun _ e=>nomatch e⟩
 |ref p =>
  cases r
  rcases ty with ⟨rfl,xs,hq⟩|⟨rfl,o,hk,hc,hd⟩|⟨rfl,hk⟩|⟨rfl,S,n,hk⟩
  ·obtain⟨its,_,pl,_⟩:=I.list hq
   refine⟨pl.isList.typeIs,fun a e=>?_⟩
   cases e
   obtain⟨o,n,e,c,hd,_⟩:=pl
   exact⟨o,e,hd⟩
  ·refine⟨⟨o,I.kIn p o hk,hc⟩,fun a e=>?_⟩
   cases e
   exact⟨o,I.kIn _ o hk,hd⟩
  ·have z:∃o,s.heap.get? p=some o∧o.ExactDict:=by
    rcases hk with ⟨kvs,hk⟩|⟨kvs,hk⟩
    ·obtain⟨_,_,_,_,o,_,_,e,ex,_⟩:=I.hok p _ hk
     exact⟨o,e,ex⟩
    ·obtain⟨_,_,_,_,o,_,_,e,ex,_⟩:=I.hok p _ hk
     exact⟨o,e,ex⟩
   obtain⟨o,e,ex⟩:=z
   refine⟨⟨o,e,ex.1⟩,fun a e2=>?_⟩
   cases e2
   exact⟨o,e,ex.2.1⟩
  ·obtain⟨o,_,_,_,e,ex,_⟩:=I.hok p _ hk
   refine⟨⟨o,e,ex.1⟩,fun a e2=>?_⟩
   cases e2
   exact⟨o,e,ex.2.1⟩
 |_=>exact False.elim ty
def tBM(K:PySem.W.Frag)(T:String)(r:V→List V→Hp→VK→Prop)(to:TE)(t:TA):TE:=fun σ H Q=>to σ H fun x H1=>tyV K T x H1∧t σ H1 fun xs H2=>r x xs H2 Q
variable {o e:Expr}{es:List Expr}{to:TE}{t:TA}{name:Str}{apos cpos:Pos}{T id:String}{r:V→List V→Hp→VK→Prop}
theorem N6(pa:PlainAttrs T)(slot:Slot T name id)(hty:typeOf (.builtin id)=pure (.type "method_descriptor"))(hm:MtR X id r)(ho:PE X o to)(ha:PA X (e::es) t)
  (hbase:attributeBase o name X.env (eval o X.env)=eval o X.env:=by rfl)
  (hfew:((backTo cpos (starEach (e::es) X.env)).all (fun x=>!x.1)&&(backToKw cpos (keywordEach [] X.env)).all (fun x=>x.1.isSome)
   && decide ((e::es).length+([]:List Keyword).length+(if ([]:List Keyword).isEmpty then 0 else 1)<30))=true:=by rfl)
  (hline:(apos.endLine==cpos.line)=true:=by rfl) (hs:starEach (e::es) X.env=(false,eval e X.env)::starEach es X.env:=by rfl) (hplain:(backTo cpos (starEach es X.env)).any (·.1)=false:=by rfl) :
  PE X (.Call (.Attribute o name apos) (e::es) [] cpos) (tBM X.K T r to t):=by
 intro pins s σ H Q I h
 refine wpAny_Call_method_late hbase hfew hline rfl (thn (ho pins s σ H _ I h) fun v s1 ⟨x,H1,I1,r1,ty,q1⟩=>?_)
 obtain⟨h1,h2⟩:=adH I1 r1 ty
 refine⟨T,id,pa,slot,hty,h1,h2,?_⟩
 have hA:=ha cpos pins s1 σ H1 _ I1 q1
 rw[hs]at hA ⊢
 refine Calls.callWith_builtin (by show(false||(backTo cpos (starEach es X.env)).any (·.1))=false;rw[hplain]<;>rfl) (Calls.evalArgs_plain ?_)
 exact thn hA fun us s2 ⟨vs,H2,I2,r2,q2⟩=>hm pins s2 σ H2 x vs v us Q I2 r1 r2 q2
end
end L2
namespace L2
open PySem PySem.Spec PyProof.Rows
def MtM(X:Cx)(id:String)(r:V→List V→Hp→VK→Prop):Prop :=
 ∀(pins:List (Addr×Obj)) (s:Shared) (σ:St) (H:Hp) (x:V) (xs:List V) (v:Value) (us:List Value) (Q:VK),Inv X pins σ H s→RelV x v→Vals xs us→r x xs H Q →
  wpAny (model X.prog X.w) X.A (call (.builtin id) (v::us)) (EP X pins σ Q) X.xe s
theorem Vals.one:∀{x:V} {us:List Value},Vals [x] us→∃u,us=[u]∧RelV x u
 |_,_,.cons r .nil=>⟨_,rfl,r⟩
section
variable {X:Cx}{pins:List (Addr×Obj)}{σ:St}{H:Hp}{s:Shared}{l b:Addr}{xs ys zs:List V}
theorem Inv.R5{its its':List Value}{n:Nat}{f:Array Value→Array Value}{t':Nat}(I:Inv X pins σ H s)(hH:H l=some (.lst xs))
  (e:s.heap.get? l=some {cls:=.type "list",data:=.seq its.toArray n}) (hf:f its.toArray=its'.toArray) (hv:Vals ys its') (hz:ys.length≤sizeLine) :
  Inv X pins σ (upd H l (.lst ys)) {s with heap:=s.heap.update l (Obj.mapSeq f),toks:=t'}:=by
 have q:=PySem.IsL.update e f
 rw[hf]at q
 refine I.write (x:=l) (e:=l) (by rw[hH];exact trivial) (.inl rfl) (fun b' u hb hu=>(Heap.get?_update_other s.heap (Obj.mapSeq f) (Ne.symm hb)).trans hu) ⟨_,q⟩ ?_
 exact⟨hz,its',_,hv,q⟩
theorem Inv.ade{its:List Value}{t':Nat}(I:Inv X pins σ H s)(hv:Vals ys its)(hz:ys.length≤sizeLine) :
  Inv X pins σ (upd H s.heap.objs.size (.lst ys)) {s with heap:=s.heap.push {cls:=.type "list",data:=.seq its.toArray},toks:=t'} :=
 I.laid (fun _ _ q=>Heap.get?_push_of_some _ q) (Nat.le_refl _) ⟨hz,its,0,hv,Heap.get?_push_size _ rfl⟩
theorem Inv.fresh(I:Inv X pins σ H s):H s.heap.objs.size=none:=I.hok.fresh (Nat.le_refl _)
theorem Inv.Ih(I:Inv X pins σ H s)(hH:H l=some (.lst xs)):xs.length≤sizeLine∧∃(its:List Value) (n:Nat),Vals xs its∧xs.length=its.length∧s.heap.get? l=some {cls:=.type "list",data:=.seq its.toArray n}:=by
 obtain⟨z,its,n,r,e⟩:=I.hok l _ hH
 exact⟨z,its,n,r,r.length,e⟩
theorem Su{n:Nat}(h:n≤sizeLine):Builtin.List.listTooLong n=false:=by
 unfold Builtin.List.listTooLong
 exact decide_eq_false (by omega)
end
section
variable {X:Cx}
def W_:V→List V→Hp→VK→Prop:=fun x vs H Q=>∃l xs y,x=.ref l∧vs=[y]∧H l=some (.lst xs)∧xs.length<sizeLine∧Q .non (upd H l (.lst (xs++[y])))
theorem NQ:MtM X "list.append" W_:=by
 intro pins s σ H x vs v us Q I rx rv h
 obtain⟨l,xs,y,rfl,rfl,hH,hz,q⟩:=h
 cases rx
 obtain⟨u,rfl,ru⟩:=rv.one
 obtain⟨z,its,n,r,hl,e⟩:=I.Ih hH
 refine call_meets F.slot_list_append ⟨_,e,rfl⟩ F.entry_list_append (F.args_list_append_2 _ _) (PySem.list_append l its.toArray n u (by rw[List.size_toArray];omega)) ⟨e,?_⟩
 refine⟨.non,_,I.R5 (its':=its++[u]) hH e (by simp) (r.append (.cons ru .nil)) ?_,rfl,q⟩
 rw[List.length_append,List.length_singleton]
 omega
def Xa:V→List V→Hp→VK→Prop:=fun x vs H Q=>∃l b xs zs,x=.ref l∧vs=[.ref b]∧H l=some (.lst xs)∧H b=some (.lst zs)∧xs.length+zs.length≤sizeLine∧Q .non (upd H l (.lst (xs++zs)))
theorem NT:MtM X "list.extend" Xa:=by
 intro pins s σ H x vs v us Q I rx rv h
 obtain⟨l,b,xs,zs,rfl,rfl,hH,hB,hz,q⟩:=h
 cases rx
 obtain⟨u,rfl,ru⟩:=rv.one
 cases ru
 obtain⟨z,its,n,r,hl,e⟩:=I.Ih hH
 obtain⟨z2,its2,n2,r2,hl2,e2⟩:=I.Ih hB
 have hsz:its.toArray.size+its2.toArray.size≤sizeLine:=by rw[List.size_toArray,List.size_toArray];omega
 have hlong:¬(!its.toArray.isEmpty&&Builtin.List.listTooLong (its.toArray.size+its2.toArray.size))=true:=by
  rw[Su hsz,Bool.and_false]
  exact Bool.false_ne_true
 refine call_meets F.slot_list_extend ⟨_,e,rfl⟩ F.entry_list_extend (F.args_list_extend_2 _ _)
  (AutoSeq1.list_extend_list_list_0 l its.toArray n b its2.toArray n2 hlong (by rw[List.size_toArray];omega) (by omega)) ⟨e,e2,?_⟩
 refine⟨.non,_,I.R5 (its':=its++its2) hH e (by simp) (r.append r2) ?_,rfl,q⟩
 rw[List.length_append]
 omega
def abZ:R2:=fun x y H Q=>∃l b xs zs,x=.ref l∧y=.ref b∧H l=some (.lst xs)∧H b=some (.lst zs)∧xs.length+zs.length≤sizeLine∧∀p,H p=none→Q (.ref p) (upd H p (.lst (xs++zs)))
theorem p_:OpR X (binaryOp .Add) abZ:=by
 intro pins s σ H x y v u Q I rx ry h
 obtain⟨l,b,xs,zs,rfl,rfl,hH,hB,hz,q⟩:=h
 cases rx
 cases ry
 obtain⟨z,its,n,r,hl,e⟩:=I.Ih hH
 obtain⟨z2,its2,n2,r2,hl2,e2⟩:=I.Ih hB
 refine PySem.P.add_list e e2 ?_ (by rw[List.size_toArray,List.size_toArray];omega)
 have ea:its.toArray++its2.toArray=(its++its2).toArray:=by simp
 rw[ea]
 exact⟨.ref _,_,I.ade (t':=s.toks) (r.append r2) (by rw[List.length_append];omega),rfl,q _ I.fresh⟩
end
end L2
namespace L2
open PySem PySem.Spec PyProof.Rows
theorem Vals.ints:∀{ns:List Int} {us:List Value},Vals (ns.map V.int) us→IntsAre us ns
 |[],us,h=>by
  rw[List.map_nil]at h
  cases h
  exact IntsAre.nil
 |n::ns,us,h=>by
  rw[List.map_cons]at h
  cases h with
  |cons r t =>
   obtain⟨k,rfl⟩:=r
   exact IntsAre.cons n k (Vals.ints t)
theorem yF:∀{us:List Value} {ns:List Int},IntsAre us ns→Vals (ns.map V.int) us
 |_,_,.nil=>by rw[List.map_nil];exact Paired.nil
 |_,_,.cons n t h=>by rw[List.map_cons];exact Paired.cons (show RelV (V.int n) (Value.int n t)from⟨t,rfl⟩) (yF h)
theorem Vals.bls:∀{bs:List Bool} {us:List Value},Vals (bs.map V.bl) us→us=bs.map Value.bool
 |[],us,h=>by
  rw[List.map_nil]at h
  cases h
  rfl
 |b::bs,us,h=>by
  rw[List.map_cons]at h
  cases h with
  |cons r t =>
   cases r
   rw[Vals.bls t,List.map_cons]
theorem Vals.aaL{a:Addr}{us:List Value}(r:Vals [V.ref a] us):us=[Value.ref a]:=by
 cases r with
 |cons r t =>
  cases t
  cases r
  rfl
section
variable {X:Cx}
def VM(K:PySem.W.Frag):V→List V→Hp→VK→Prop:=fun x xs H Q=>∃(a:Addr) (ys:List V) (y:V) (j:Nat) (z:V),x=V.ref a∧xs=[y]∧SqL K H a ys∧t_ y=true∧ys.all t_=true∧ys[j]?=some z∧eqV z y=true ∧
 (∀(m:Nat) (z':V),m<j→ys[m]?=some z'→eqV z' y=false)∧Q (.int (j:Nat)) H
theorem WK{ys:List V}(f:ys.all t_=true){j:Nat}{z:V}(h:ys[j]?=some z):t_ z=true:=List.all_eq_true.mp f z (List.mem_of_getElem? h)
theorem aah:MtR X "list.index" (VM X.K):=by
 intro pins s σ H x xs v us Q I rx rxs h
 obtain⟨a,ys,y,j,z,rfl,rfl,hs,fy,fys,hz,hzj,hno,q⟩:=h
 cases rx
 cases rxs with
 |cons ry rt =>
  rename_i uy ut
  cases rt
  obtain⟨its,rv,⟨⟨cls,dd,data,sl⟩,n,ho,hc,hdn,hd⟩,hlen⟩:=I.list hs
  simp only at hc hd
  subst hc hd
  obtain⟨u,hu,ru⟩:=rv.get hz
  obtain⟨hjl,hje⟩:=List.getElem?_eq_some_iff.mp hu
  have hvl:=rv.length
  have hj:j<its.toArray.size:=by simpa using hjl
  have hsl:=sizeLine_eq
  refine call_meets PySem.F.slot_list_index ⟨_,ho,rfl⟩ PySem.F.entry_list_index (PySem.F.args_list_index_2 _ _)
   (SeqAt.list_indexAt a its.toArray n dd sl uy (eqU y) j hj (by omega) ?_ ?_) ⟨ho,fun u' hu'=>Ep ry fy rv fys u' (by simpa using hu'),?_⟩
  ·have e1:its.toArray[j]=u:=by simpa using hje
   rw[e1,PQ ru (WK fys hz)]
   exact hzj
  ·intro m hm hmj
   have hml:m<its.length:=by simpa using hm
   have hmy:m<ys.length:=by omega
   have hy':ys[m]?=some ys[m]:=List.getElem?_eq_getElem hmy
   obtain⟨u2,hu2,ru2⟩:=rv.get hy'
   obtain⟨_,hme⟩:=List.getElem?_eq_some_iff.mp hu2
   have e1:its.toArray[m]=u2:=by simpa using hme
   rw[e1,PQ ru2 (WK fys hy')]
   exact hno m _ hmj hy'
  ·exact⟨.int (j:Nat),H,I.tok _,⟨_,rfl⟩,q⟩
end
theorem Z3{prog:Program}{w:World}{A:Around}{E:Value→Shared→Prop}{s:Shared}{l:Addr}{items:Array Value}{Q:Value→Shared→Prop}(hl:s.heap.IsList l items)
  (h:∀s₂:Shared,s₂={s with heap:=s.heap.push {cls:=.type "list_iterator",data:=.fields #[.ref l,.int 0 0]}} →
   (s₂.heap.IsListIter s.heap.objs.size l 0∧s₂.heap.IsList l items)→l≠s.heap.objs.size→Q (.ref s.heap.objs.size) s₂):wpAny (model prog w) A (pyIter (.ref l)) Q E s:=by
 have hlt:l<s.heap.objs.size:=by obtain⟨_,e,_⟩:=hl;exact Heap.lt_size e
 exact wpAny_pyIter_list hl (h _ rfl ⟨⟨_,Heap.get?_push_size _ rfl,rfl,rfl⟩,hl.push _⟩ (Nat.ne_of_lt hlt))
theorem TV{prog:Program}{w:World}{A:Around}{bs:List Bool}{its:List Value}(e:its=bs.map Value.bool) :
  TruthOf prog w A (fun i v=>its.toArray[i]?=some v) (fun i=>bs.getD i false):=fun i v s Q E hv hq=>by
 have hv':its[i]?=some v:=by simpa using hv
 rw[e,List.getElem?_map]at hv'
 obtain⟨b,hb,rfl⟩:=Option.map_eq_some_iff.mp hv'
 have hg:bs.getD i false=b:=by rw[List.getD_eq_getElem?_getD,hb]<;>rfl
 have hq':Q (bs.getD i false) s:=hq
 rw[hg]at hq'
 exact wpAny_truthy_bool hq'
theorem any_range:∀bs:List Bool,(List.range bs.length).any (fun i=>bs.getD i false)=bs.any id
 |[]=>rfl
 |b::bs=>by
  rw[List.length_cons,List.range_succ_eq_map,List.any_cons,List.any_map,List.any_cons,← any_range bs]
  all_goals rfl
section
variable {X:Cx}
def ad5(K:PySem.W.Frag):List V→Hp→VK→Prop:=fun vs H Q=>∃(a:Addr) (bs:List Bool),vs=[V.ref a]∧SqL K H a (bs.map V.bl)∧Q (.bl (bs.any id)) H
theorem acM(hc:X.calm=true):yI X (.builtin "any") (ad5 X.K):=by
 intro pins s σ H vs us Q I r h
 obtain⟨a,bs,rfl,hs,q⟩:=h
 obtain⟨its,rv,hl,_⟩:=I.list hs
 rw[Vals.aaL r]
 have hb:=rv.bls
 refine call_any_walk (Z3 hl.isList fun s₂ e2 st hne=>?_)
 subst e2
 refine⟨_,_,_,_,_,_,_,rfl,Walks.list (A:=X.A.in1) (I.ok.hd hc) _ a hne its.toArray,st,TV hb,fun h' tk hk=>?_⟩
 refine⟨.bl _,H,I.kept fun b o eo=>hk b o (fun hmem=>?_) (Heap.get?_push_of_some _ eo),?_,q⟩
 ·rcases List.mem_cons.mp hmem with e1 | hmem
  ·exact absurd (e1▸Heap.lt_size eo) (Nat.lt_irrefl _)
  ·cases hmem
 ·show Value.bool _=Value.bool _
  rw[← any_range,hb,List.size_toArray,List.length_map]
end
mutual
inductive Dp(K:PySem.W.Frag)(H:Hp):V→PyData→Prop
 |non:Dp K H .non .none
 |bl (b:Bool):Dp K H (.bl b) (.bool b)
 |int (i:Int):Dp K H (.int i) (.int i)
 |str (x:Str):Dp K H (.str x) (.str x)
 |lst {a:Addr} {xs:List V} {ds:List PyData}:SqL K H a xs→Nh K H xs ds→Dp K H (.ref a) (.list ds)
 |tup {a:Addr} {xs:List V} {ds:List PyData}:SqT K H a xs→Nh K H xs ds→Dp K H (.ref a) (.tuple ds)
inductive Nh(K:PySem.W.Frag)(H:Hp):List V→List PyData→Prop
 |nil:Nh K H [] []
 |cons {v:V} {vs:List V} {d:PyData} {ds:List PyData}:Dp K H v d→Nh K H vs ds→Nh K H (v::vs) (d::ds)
end
section
variable {X:Cx}{pins:List (Addr×Obj)}{σ:St}{H:Hp}{s:Shared}
mutual
theorem Dp.reads(I:Inv X pins σ H s):∀(d:PyData) (v:V) (u:Value),Dp X.K H v d→RelV v u→∃as,Reads s.heap u d as
 |.none,_,_,h,r=>by
  cases h
  cases r
  exact⟨_,Reads.none⟩
 |.bool b,_,_,h,r=>by
  cases h
  cases r
  exact⟨_,Reads.bool b⟩
 |.int i,_,_,h,r=>by
  cases h
  obtain⟨t,rfl⟩:=r
  exact⟨_,Reads.int i t⟩
 |.str x,_,_,h,r=>by
  cases h
  obtain⟨t,rfl⟩:=r
  exact⟨_,Reads.str x t⟩
 |.list ds,_,_,h,r=>by
  cases h with
  |lst hs ha =>
   cases r
   obtain⟨its,rv,⟨o,n,ho,hc,_,hd⟩,_⟩:=I.list hs
   obtain⟨as,hr⟩:=Dp.readsAll I ds _ its ha rv
   exact⟨_,Reads.list ho hc hd hr⟩
 |.tuple ds,_,_,h,r=>by
  cases h with
  |tup hs ha =>
   cases r
   obtain⟨its,rv,⟨o,ho,hc,n,hd⟩,_⟩:=I.tuple hs
   obtain⟨as,hr⟩:=Dp.readsAll I ds _ its ha rv
   exact⟨_,Reads.tuple ho hc hd hr⟩
 |.dict _,_,_,h,_=>by cases h
theorem Dp.readsAll(I:Inv X pins σ H s):∀(ds:List PyData) (vs:List V) (us:List Value),Nh X.K H vs ds→Vals vs us→∃as,ReadsAll s.heap us ds as
 |[],_,_,h,r=>by
  cases h
  cases r
  exact⟨_,ReadsAll.nil⟩
 |d::ds,_,_,h,r=>by
  cases h with
  |cons h1 h2 =>
   cases r with
   |cons r1 r2 =>
    obtain⟨as,q1⟩:=Dp.reads I d _ _ h1 r1
    obtain⟨bs,q2⟩:=Dp.readsAll I ds _ _ h2 r2
    exact⟨_,ReadsAll.cons q1 q2⟩
end
end
end L2
namespace L2
open PySem PySem.Spec PyProof.Rows
abbrev Y_(h:Heap)(c:Addr)(v:Option Value):Prop:=h.IsCell c v
def aev(scope sc:Scope):Scope :=
 {scope with names:=scope.names.map fun(n,k)=>if (k==.free&&sc.kind==.function&&sc.names.lookup n==some .cell)then (n,.cell)else (n,k)}
def bx(cells:List (Str×Addr)):List (Str×NameKind)→List (Str×Addr)→List (Str×Addr)
 |[],acc=>acc
 |(n,k)::r,acc=>if k==.free then bx cells r ((n,(cells.lookup n).getD 0)::acc)else bx cells r acc
theorem Eh(env:Env)(f:Str×NameKind→List (Str×Addr)→Sem (ForInStep (List (Str×Addr))))
  (hf:∀n k c,f (n,k) c=if k==.free then (do let a ← cellOf env n;pure (.yield ((n,a)::c)))else pure (.yield c)) :
  ∀(names:List (Str×NameKind)) (acc:List (Str×Addr)),(∀y∈names,y.2=.free→∃c,env.cells.lookup y.1=some c)→forIn names acc f=pure (bx env.cells names acc)
 |[],acc,_=>by rw[List.forIn_nil];rfl
 |(n,k)::r,acc,h=>by
  rw[List.forIn_cons,hf]
  have ih:=fun acc=>Eh env f hf r acc fun y hy=>h y (List.mem_cons_of_mem _ hy)
  unfold bx
  by_cases hk:(k==NameKind.free)=true
  ·rw[if_pos hk,if_pos hk]
   obtain⟨c,hc⟩:=h (n,k) List.mem_cons_self (by simpa using hk)
   have e:cellOf env n=pure c:=by unfold cellOf;rw[hc]
   rw[e]
   have e2:(env.cells.lookup n).getD 0=c:=by rw[hc];rfl
   rw[e2]
   exact ih _
  ·rw[if_neg hk,if_neg hk]
   exact ih _
theorem CJ{scope:Scope}{env:Env}(h:∀y∈scope.names,y.2=.free→∃c,env.cells.lookup y.1=some c):closureFor scope env=pure (bx env.cells scope.names []):=by
 simp only[closureFor]
 rw[Eh env _ (fun n k c=>rfl) scope.names [] h]
 rfl
theorem mem_lookup{α:Type}:∀{l:List (Str×α)} {n:Str} {c:α},(n,c)∈l→∃c',l.lookup n=some c'
 |(k,v)::r,n,c,h=>by
  rw[List.lookup_cons]
  cases hb:n==k with
  |true=>exact⟨_,rfl⟩
  |false =>
   rcases List.mem_cons.mp h with e|h
   ·cases e;simp at hb
   ·exact mem_lookup h
theorem sH{cells:List (Str×Addr)}:∀{names:List (Str×NameKind)} {acc:List (Str×Addr)} {n:Str} {c:Addr},(n,c)∈bx cells names acc→(n,c)∈acc∨((n,.free)∈names∧c=(cells.lookup n).getD 0)
 |[],_,_,_,h=>.inl h
 |(m,k)::r,acc,n,c,h=>by
  unfold bx at h
  split at h
  ·rename_i hk
   have hk:k=.free:=by simpa using hk
   rcases sH h with h|⟨h1,h2⟩
   ·rcases List.mem_cons.mp h with e | h
    ·cases e;exact .inr ⟨hk▸List.mem_cons_self,rfl⟩
    ·exact .inl h
   ·exact .inr ⟨List.mem_cons_of_mem _ h1,h2⟩
  ·rcases sH h with h | ⟨h1,h2⟩
   ·exact .inl h
   ·exact .inr ⟨List.mem_cons_of_mem _ h1,h2⟩
theorem zq{cells:List (Str×Addr)}:∀{names:List (Str×NameKind)} {acc:List (Str×Addr)} {p:Str×Addr},p∈acc→p∈bx cells names acc
 |[],_,_,h=>h
 |(m,k)::r,acc,p,h=>by
  unfold bx
  split
  ·exact zq (List.mem_cons_of_mem _ h)
  ·exact zq h
theorem vH{cells:List (Str×Addr)}:∀{names:List (Str×NameKind)} {acc:List (Str×Addr)} {n:Str},(n,.free)∈names→(n,(cells.lookup n).getD 0)∈bx cells names acc
 |(m,k)::r,acc,n,h=>by
  unfold bx
  rcases List.mem_cons.mp h with e|h
  ·cases e
   exact zq List.mem_cons_self
  ·split
   ·exact vH h
   ·exact vH h
theorem wV:∀{names:List (Str×NameKind)} {h:Heap} {acc:List (Str×Addr)} {x:Str} {c:Addr},(x,c)∈cellsFrom h.objs.size names acc →
  (x,c)∈acc∨((x,.cell)∈names∧h.objs.size≤c∧Y_ (pushCells h names) c none)
 |[],_,_,_,_,h=>.inl h
 |(n,k)::r,h,acc,x,c,hm=>by
  unfold cellsFrom at hm
  unfold pushCells
  split at hm
  ·rename_i hk
   rw[if_pos hk]
   have hk:k=.cell:=by simpa using hk
   rw[← Heap.size_push h {cls:=.type "cell",data:=.cell none}]at hm
   rcases wV hm with hm|⟨h1,h2,h3⟩
   ·rcases List.mem_cons.mp hm with e | hm
    ·cases e
     exact .inr ⟨hk▸List.mem_cons_self,Nat.le_refl _,_,pushCells_keeps r _ _ _ (Heap.get?_push_size _ rfl),rfl⟩
    ·exact .inl hm
   ·rw[Heap.size_push]at h2
    exact .inr ⟨List.mem_cons_of_mem _ h1,Nat.le_of_succ_le h2,h3⟩
  ·rename_i hk
   rw[if_neg hk]
   rcases wV hm with hm|⟨h1,h2,h3⟩
   ·exact .inl hm
   ·exact .inr ⟨List.mem_cons_of_mem _ h1,h2,h3⟩
theorem Ax:∀{names:List (Str×NameKind)} {n:Nat} {acc:List (Str×Addr)} {p:Str×Addr},p∈acc→p∈cellsFrom n names acc
 |[],_,_,_,h=>h
 |(m,k)::r,n,acc,p,h=>by
  unfold cellsFrom
  split
  ·exact Ax (List.mem_cons_of_mem _ h)
  ·exact Ax h
theorem FW:∀{names:List (Str×NameKind)} {n:Nat} {acc:List (Str×Addr)} {x:Str},(x,.cell)∈names→∃c,(x,c)∈cellsFrom n names acc
 |(m,k)::r,n,acc,x,h=>by
  unfold cellsFrom
  rcases List.mem_cons.mp h with e|h
  ·cases e
   exact⟨n,Ax List.mem_cons_self⟩
  ·split
   ·exact FW h
   ·exact FW h
theorem FZ:∀{names:List (Str×NameKind)} {h:Heap} {acc:List (Str×Addr)} {x y:Str} {c:Addr},(∀p∈acc,p.2<h.objs.size)→(∀x y c,(x,c)∈acc→(y,c)∈acc→x=y) →
  (x,c)∈cellsFrom h.objs.size names acc→(y,c)∈cellsFrom h.objs.size names acc→x=y
 |[],_,_,_,_,_,_,hi,h1,h2=>hi _ _ _ h1 h2
 |(n,k)::r,h,acc,x,y,c,hl,hi,h1,h2=>by
  unfold cellsFrom at h1 h2
  split at h1
  ·rename_i hk
   rw[if_pos hk]at h2
   rw[← Heap.size_push h {cls:=.type "cell",data:=.cell none}]at h1 h2
   refine FZ (h:=h.push _) (fun p hp=>?_) (fun x y c a b=>?_) h1 h2
   ·rw[Heap.size_push]
    rcases List.mem_cons.mp hp with rfl|hp
    ·exact Nat.lt_succ_self _
    ·exact Nat.lt_succ_of_lt (hl p hp)
   ·rcases List.mem_cons.mp a with e | a<;>rcases List.mem_cons.mp b with e' | b
    ·cases e;cases e';rfl
    ·cases e;exact absurd (hl _ b) (Nat.lt_irrefl _)
    ·cases e';exact absurd (hl _ a) (Nat.lt_irrefl _)
    ·exact hi _ _ _ a b
  ·rename_i hk
   rw[if_neg hk]at h2
   exact FZ hl hi h1 h2
theorem Sq{M:Model}{A:Around}{E:Value→Shared→Prop}{s:Shared}{scope:Scope}{globals:Addr}{closure:List (Str×Addr)}{qual:Str}{func:Option Addr}{code:Value}{around:Env}{builtins:Addr}{Q:Env→Shared→Prop}
  (h:Q (newEnv scope s.heap.objs.size globals (cellsFrom (s.heap.objs.size+1) scope.names closure) qual func code (some around) builtins)
   {s with heap:=pushCells (s.heap.push {cls:=.type "dict",data:=.dict #[]}) scope.names}) :
  wpAny M A (newFunctionEnv scope globals closure [] qual func code (some around) builtins) Q E s:=by
 simp only[newFunctionEnv,Option.isSome_some,if_true]
 refine wpAny_bind (wpAny_alloc ?_)
 refine wpAny_bind (wpAny_layCells _ (fun n k c=>rfl) scope.names closure _ _ ?_)
 rw[show({s with heap:=s.heap.push {cls:=.type "dict",data:=.dict #[]}}:Shared).heap.objs.size=s.heap.objs.size+1 from Heap.size_push ..]
 rw[List.forIn_nil]
 exact wpAny_bind (wpAny_pure (wpAny_pure h))
theorem zG{sc:Scope}:∀{names:List (Str×NameKind)} {x:Str} {k:NameKind},
  (names.map fun(n,k)=>if (k==NameKind.free&&sc.kind==.function&&sc.names.lookup n==some .cell)then (n,NameKind.cell)else (n,k)).lookup x=some k →
  ∃k',names.lookup x=some k'∧(k=k'∨(k'=.free∧k=.cell))
 |[],_,_,h=>by simp at h
 |(n,k₀)::r,x,k,h=>by
  have ih:=@zG sc r x k
  have h':List.lookup x ((if (k₀==NameKind.free&&sc.kind==.function&&sc.names.lookup n==some .cell)=true then (n,NameKind.cell)else (n,k₀))::(r.map _))=some k:=h
  cases hx:x==n with
  |true =>
   simp only[List.lookup_cons,hx]
   by_cases hc:(k₀==NameKind.free&&sc.kind==.function&&sc.names.lookup n==some .cell)=true
   ·rw[if_pos hc]at h'
    simp only[List.lookup_cons,hx]at h'
    cases h'
    simp only[Bool.and_eq_true,beq_iff_eq]at hc
    exact⟨k₀,rfl,.inr ⟨hc.1.1,rfl⟩⟩
   ·rw[if_neg hc]at h'
    simp only[List.lookup_cons,hx]at h'
    cases h'
    exact⟨_,rfl,.inl rfl⟩
  |false =>
   simp only[List.lookup_cons,hx]
   by_cases hc:(k₀==NameKind.free&&sc.kind==.function&&sc.names.lookup n==some .cell)=true
   ·rw[if_pos hc]at h'
    simp only[List.lookup_cons,hx]at h'
    exact ih h'
   ·rw[if_neg hc]at h'
    simp only[List.lookup_cons,hx]at h'
    exact ih h'
structure wQ(N:List Str)(sc scope:Scope)(own:List (Str×Nat)):Prop where
 kind:scope.kind=.function
 uniq:∀y∈scope.names,scope.names.lookup y.1=some y.2
 ix:∀p∈own,N[p.2]?=some p.1
 free:∀y∈scope.names,y.2=.free→sc.names.lookup y.1=some .cell∨sc.names.lookup y.1=some .free
 own:∀y∈scope.names,y.2=.local∨y.2=.cell→y.1∈own.map (·.1)∨y.1∉N
def wipe(σ:St):List Nat→St
 |[]=>σ
 |v::vs=>(wipe σ vs).set v none
theorem sX(σ:St):∀vs:List Nat,(wipe σ vs).length=σ.length
 |[]=>rfl
 |v::vs=>by unfold wipe;rw[List.length_set,sX σ vs]
theorem Br{σ:St}{i:Nat}{x:V}:∀{vs:List Nat},(wipe σ vs)[i]?=some (some x)→σ[i]?=some (some x)∧i∉vs
 |[],h=>⟨h,by simp⟩
 |v::vs,h=>by
  unfold wipe at h
  by_cases hi:v=i
  ·subst hi
   by_cases hv:v<(wipe σ vs).length
   ·rw[List.getElem?_set_self hv]at h;cases h
   ·rw[List.getElem?_eq_none (by simpa using hv)]at h;cases h
  ·rw[List.getElem?_set_ne hi]at h
   obtain⟨h1,h2⟩:=Br h
   exact⟨h1,by simp only[List.mem_cons,not_or];exact⟨fun e=>hi e.symm,h2⟩⟩
abbrev Cx.blk(X:Cx)(s:Shared)(H:Hp)(scope:Scope)(cenv:Env)(fp:List Addr):Cx:={X with s_0:=s,H_0:=H,env:=cenv,outer:=X.stack,ex:=fp,fn:=fun x=>scope.names.lookup x==some .cell,pn:=[],xe:=fun _ _=>False}
section
variable {X:Cx}{pins:List (Addr×Obj)}{σ:St}{H:Hp}{s:Shared}
theorem Rn{scope:Scope}{own:List (Str×Nat)}{fp:List Addr}(I:Inv X pins σ H s)(ok:wQ X.N X.env.scope scope own)(hN:X.N.Nodup)(hfp:∀b∈fp,sY X pins H b∧b<s.heap.objs.size) :
  Inv (X.blk s H scope (compEnvC scope (cellsFrom (s.heap.objs.size+1) scope.names (bx X.env.cells scope.names [])) s.heap.objs.size X.env) fp) [] (wipe σ (own.map (·.2))) H {s with heap:=pushCells (s.heap.push {cls:=.type "dict",data:=.dict #[]}) scope.names}:=by
 have hfree:∀y∈scope.names,y.2=.free→∃c,X.env.cells.lookup y.1=some c:=fun y hy e=>by
  rcases ok.free y hy e with k|k
  ·exact I.ok.has _ (.inl k)
  ·exact I.ok.has _ (.inr k)
 generalize hcenv:compEnvC scope (cellsFrom (s.heap.objs.size+1) scope.names (bx X.env.cells scope.names [])) s.heap.objs.size X.env=cenv
 have kp:∀b o,s.heap.get? b=some o→(pushCells (s.heap.push {cls:=.type "dict",data:=.dict #[]}) scope.names).get? b=some o:=fun b o e=>pushCells_keeps _ _ _ _ (Heap.get?_push_of_some _ e)
 have hL:cenv.locals=s.heap.objs.size:=by rw[← hcenv];rfl
 have hcl:cenv.cells=cellsFrom (s.heap.objs.size+1) scope.names (bx X.env.cells scope.names []):=by rw[← hcenv];rfl
 have hsc:cenv.scope=aev scope X.env.scope:=by rw[← hcenv];rfl
 rw[← Heap.size_push s.heap {cls:=.type "dict",data:=.dict #[]}]at hcl
 have cm:∀{y c},(y,c)∈bx X.env.cells scope.names []→X.env.cells.lookup y=some c∧c<s.heap.objs.size:=fun{y c} hm=>by
  rcases sH hm with hm|⟨h1,rfl⟩
  ·cases hm
  ·obtain⟨c,hc⟩:=hfree _ h1 rfl
   rw[hc]
   obtain⟨w,z⟩:=I.cell _ _ hc
   exact⟨rfl,z.lt⟩
 have mem:∀{y c},cenv.cells.lookup y=some c→(X.env.cells.lookup y=some c∧c<s.heap.objs.size)∨(s.heap.objs.size+1≤c∧Y_ (pushCells (s.heap.push {cls:=.type "dict",data:=.dict #[]}) scope.names) c none):=fun{y c} e=>by
  rw[hcl]at e
  rcases wV (PySem.mem_of_lookup e)with hm|⟨_,h2,h3⟩
  ·exact .inl (cm hm)
  ·rw[Heap.size_push]at h2;exact .inr ⟨h2,h3⟩
 have look:∀{y},scope.names.lookup y=some .free→∃c,cenv.cells.lookup y=some c∧X.env.cells.lookup y=some c:=fun{y} hl=>by
  have hy:(y,NameKind.free)∈scope.names:=PySem.mem_of_lookup hl
  obtain⟨c',e'⟩:=mem_lookup (Ax (names:=scope.names) (n:=(s.heap.push {cls:=.type "dict",data:=.dict #[]}).objs.size) (vH (cells:=X.env.cells) (acc:=[]) hy))
  rw[← hcl]at e'
  refine⟨c',e',?_⟩
  rw[hcl]at e'
  rcases wV (PySem.mem_of_lookup e')with hm|⟨h1,_,_⟩
  ·exact(cm hm).1
  ·have:=ok.uniq _ h1
   rw[hl]at this;cases this
 have okB:(X.blk s H scope cenv fp).Ok:=by
  refine⟨I.ok.mod,by show cenv.scope.kind=_;rw[hsc];exact ok.kind,by show cenv.globals=_;rw[← hcenv];exact I.ok.glob,by show cenv.builtins=_;rw[← hcenv];exact I.ok.blt,by show s.heap.objs.size≤cenv.locals;rw[hL];exact Nat.le_refl _,
   fun y z c e1 e2=>?_,fun y hy=>?_,fun y c z e=>?_,I.ok.hd,I.ok.frames,.inl rfl,fun b hb=>⟨?_,fun y c e z=>?_⟩,I.bs,Nat.le_trans I.ok.bsz I.sz,fun b o e hb=>?_,fun b hb z=>?_,I.stack,I.Q6⟩
  ·have e1:cenv.cells.lookup y=some c:=e1
   have e2:cenv.cells.lookup z=some c:=e2
   rw[hcl]at e1 e2
   refine FZ (fun p hp=>?_) (fun y z c a b=>I.ok.inj y z c (cm a).1 (cm b).1) (PySem.mem_of_lookup e1) (PySem.mem_of_lookup e2)
   rw[Heap.size_push]
   exact Nat.lt_succ_of_lt (cm (y:=p.1) (c:=p.2) hp).2
  ·show ∃c,cenv.cells.lookup y=some c
   have key:∀k,cenv.kindOf y=some k→(k=.cell∨k=.free)→∃c,cenv.cells.lookup y=some c:=fun k hk hk'=>by
    unfold Env.kindOf at hk
    rw[hsc]at hk
    obtain⟨k',e,r⟩:=zG hk
    have:k'=.cell∨k'=.free:=by
     rcases r with rfl|⟨rfl,_⟩
     ·exact hk'
     ·exact .inr rfl
    rcases this with rfl|rfl
    ·obtain⟨c,hm⟩:=FW (n:=(s.heap.push {cls:=.type "dict",data:=.dict #[]}).objs.size) (acc:=bx X.env.cells scope.names []) (PySem.mem_of_lookup e)
     obtain⟨c',e'⟩:=mem_lookup hm
     exact⟨c',by rw[hcl];exact e'⟩
    ·obtain⟨c,h1,_⟩:=look e
     exact⟨c,h1⟩
   rcases hy with hy|hy
   ·exact key _ hy (.inl rfl)
   ·exact key _ hy (.inr rfl)
  ·have z:(scope.names.lookup y==some NameKind.cell)=true:=z
   have z:scope.names.lookup y=some .cell:=by simpa using z
   have e:cenv.cells.lookup y=some c:=e
   rw[hcl]at e
   rcases wV (PySem.mem_of_lookup e)with hm|⟨_,h2,_⟩
   ·rcases sH hm with hm | ⟨h1,_⟩
    ·cases hm
    ·have q:=ok.uniq _ h1
     rw[z]at q;cases q
   ·rw[Heap.size_push]at h2
    exact Nat.le_of_succ_le h2
  ·show b≠cenv.locals
   rw[hL];exact Nat.ne_of_lt (hfp b hb).2
  ·have e:cenv.cells.lookup y=some c:=e
   rcases mem e with ⟨h1,_⟩|⟨h1,_⟩
   ·exact(hfp b hb).1.2.2.2.2.1 y c h1 z
   ·have h2:s.heap.objs.size+1≤b:=by rw[← z];exact h1
    exact absurd (Nat.lt_of_lt_of_le (hfp b hb).2 (Nat.le_of_succ_le h2)) (Nat.lt_irrefl _)
  ·rcases(hfp b hb).1.2.2.2.1 with z | z
   ·exact I.ok.Yp b o e z
   ·exact absurd (Nat.lt_of_lt_of_le (Heap.lt_size e) (Nat.le_trans I.ok.bsz z)) (Nat.lt_irrefl _)
  ·rcases List.mem_cons.mp (I.Wc b z)with z | z
   ·exact(hfp b hb).1.2.1 z
   ·exact(hfp b hb).1.2.2.1 z
 refine⟨okB,rfl,I.bare,Un.kept kp,⟨fun _=>none,?_,fun i y av e1 e2 e3=>?_⟩,fun y c e=>?_,?_,fun y c e=>?_,fun p hp=>?_,I.hok.kept kp,by rw[sX];exact I.len⟩
 ·show Heap.Ns _ cenv.locals _
  rw[hL]
  exact Heap.Ns.keeps (Heap.Ns.new ..) fun b o e=>pushCells_keeps _ _ _ _ e
 ·obtain⟨e2,hne⟩:=Br e2
  have hfr:scope.names.lookup y=some .free∧(cenv.kindOf y=some .cell∨cenv.kindOf y=some .free):=by
   have key:∀k,cenv.scope.names.lookup y=some k→k=.local∨k=.cell∨k=.free→scope.names.lookup y=some .free∧(cenv.kindOf y=some .cell∨cenv.kindOf y=some .free):=fun k hk hk'=>by
    have hk0:=hk
    rw[hsc]at hk
    obtain⟨k',e,r⟩:=zG hk
    have no:¬(k'=.local∨k'=.cell):=fun hh=>by
     rcases ok.own _ (PySem.mem_of_lookup e) hh with e'|e'
     ·obtain⟨p,hp,hpy⟩:=List.mem_map.mp e'
      have e3:=ok.ix p hp
      have:p.1=y:=hpy
      rw[this]at e3
      exact hne (List.mem_map.mpr ⟨p,hp,Et hN e3 e1⟩)
     ·exact e' (List.mem_of_getElem? e1)
    rcases r with rfl|⟨rfl,rfl⟩
    ·rcases hk' with rfl | rfl | rfl
     ·exact absurd (.inl rfl) no
     ·exact absurd (.inr rfl) no
     ·exact⟨e,.inr hk0⟩
    ·exact⟨e,.inl hk0⟩
   have e3:Vis cenv.scope y:=e3
   rcases e3 with e3|e3|e3
   ·exact key _ e3 (.inl rfl)
   ·exact key _ e3 (.inr (.inl rfl))
   ·exact key _ e3 (.inr (.inr rfl))
  obtain⟨m,hn,hl⟩:=I.loc
  have hvis:Vis X.env.scope y:=(ok.free _ (PySem.mem_of_lookup hfr.1) rfl).elim (fun k=>.inr (.inl k)) (fun k=>.inr (.inr k))
  obtain⟨w,r,q⟩:=hl i y av e1 e2 hvis
  refine⟨w,r,.inr ⟨hfr.2,?_⟩⟩
  obtain⟨c,h1,h2⟩:=look hfr.1
  rcases q with ⟨k,_⟩|⟨_,c',e',z⟩
  ·have k:X.env.scope.names.lookup y=some .local:=k
   rcases ok.free _ (PySem.mem_of_lookup hfr.1) rfl with k'|k'<;>rw[show X.env.scope.names.lookup y=_ from k']at k<;>cases k
  ·rw[h2]at e';cases e'
   exact⟨c,h1,z.keeps kp⟩
 ·have e:cenv.cells.lookup y=some c:=e
  rcases mem e with ⟨h1,_⟩|⟨_,z⟩
  ·obtain⟨w,z⟩:=I.cell y c h1
   exact⟨w,z.keeps kp⟩
  ·exact⟨_,z⟩
 ·show H cenv.locals=none
  rw[hL];exact I.hok.fresh (Nat.le_refl _)
 ·have e:cenv.cells.lookup y=some c:=e
  rcases mem e with ⟨h1,_⟩|⟨h1,_⟩
  ·exact I.uc y c h1
  ·exact I.hok.fresh (Nat.le_of_succ_le h1)
 ·exact absurd (show p∈([]:List (Addr×Obj))++[]from hp) (by simp)
theorem acH{E:Value→Shared→Prop}{D:Addr}{xs:List V}{y:V}{v:Value}{Q:Value→Shared→Prop}(I:Inv X pins σ H s)(hD:H D=some (.lst xs))(hz:xs.length<sizeLine)(r:RelV y v)
  (h:∀s',Inv X pins σ (upd H D (.lst (xs++[y]))) s'→Q .none s'):wpAny (model X.prog X.w) X.A (call (.builtin "list.append") [.ref D,v]) Q E s:=by
 obtain⟨hz',its,n,ri,e⟩:=I.hok D _ hD
 have hl:=ri.length
 refine append_at (hsz:=by rw[List.size_toArray];omega) e fun h' sb ho'=>?_
 refine h {s with heap:=h'} (I.write (t':=s.toks) (by rw[hD];trivial) (.inl rfl) (fun b u hb q=>(sb.2 b hb).trans q) ⟨_,ho'⟩ ⟨by rw[List.length_append];exact hz,its++[v],n+1,ri.append (.cons r .nil),?_⟩)
 rw[ho']
 simp
def PTs(X:Cx)(ifs:List Expr)(t:TT):Prop :=
 ∀(pins:List (Addr×Obj)) (s:Shared) (σ:St) (H:Hp) (Q:Bool→Hp→Prop),Inv X pins σ H s→t σ H Q →
  wpAny (model X.prog X.w) X.A (forIn ifs true fun c r=>if r=true then do let ok ← isTrue c X.env (eval c X.env);pure (ForInStep.yield ok)else pure (ForInStep.yield r)) (TP X pins σ Q) X.xe s
def Y0:TT:=fun _ H Q=>Q true H
theorem yp:PTs X [] Y0:=fun _ _ _ H _ I h=>wpAny_tests_nil ⟨H,I,h⟩
theorem jK{c:Expr}{t:TT}(h:PT X c t):PTs X [c] t:=fun pins s σ H Q I hw=>wpAny_tests_one (h pins s σ H Q I hw)
end
theorem Y6{α:Type}{t:Sem α}{Q Q':α→Shared→Prop}{M:Model}{A:Around}{E:Value→Shared→Prop}{s:Shared}(h:wpAny M A t Q (fun _ _=>False) s)(hQ:∀a s,Q a s→Q' a s):wpAny M A t Q' E s:=wpAny_mono h hQ fun _ _ z=>False.elim z
theorem PN{prog:Program}{w:World}{A:Around}{R:Result→Shared→Prop}{s:Shared}{elt target iter:Expr}{ifs:List Expr}{scope:Scope}{pos:Pos}{it acc:Value}{env:Env}(I:Nat→Shared→Prop)
  (turn:∀n s,I n s→wpAny (model prog w) A (pyNext it) (fun r s₁=>match r with
   |none=>R (.ok .next) s₁
   |some v=>wpAny (model prog w) A (letOwnedTupleGo target it v) (fun _ s₁'=>wpAny (model prog w) A (assign target env v) (fun _ s₂ =>
     wpAny (model prog w) A (forIn ifs true fun c r=>if r=true then do let ok ← isTrue c env (eval c env);pure (ForInStep.yield ok)else pure (ForInStep.yield r)) (fun ok s₃ =>
      if ok=true then wpAny (model prog w) A (eval elt env) (fun x s₄ =>
       wpAny (model prog w) A (call (.builtin "list.append") [acc,x]) (fun _ s₅=>∃m,m<n∧I m s₅) (notedBy (model prog w) A env fun e s'=>R (.error e) s') s₄) (notedBy (model prog w) A env fun e s'=>R (.error e) s') s₃
      else ∃m,m<n∧I m s₃) (notedBy (model prog w) A env fun e s'=>R (.error e) s') s₂) (notedBy (model prog w) A env fun e s'=>R (.error e) s') s₁') (notedBy (model prog w) A env fun e s'=>R (.error e) s') s₁) (notedBy (model prog w) A env fun e s'=>R (.error e) s') s)
  (n:Nat) (h:I n s) :
  codeAny (model prog w) A (.compLoop (.ListComp elt [⟨target,iter,ifs,0⟩] scope pos) 0 it acc env) R s:=by
 refine codeAny_loop rfl I (fun n s hI=>?_) n h
 show wpAny _ A ((compTurn (.ListComp elt [⟨target,iter,ifs,0⟩] scope pos) 0 it acc env).onRaise (fun x=>do noteFrame x env;theTreesLotGoes x)) _ _ s
 refine wpAny_noted ?_
 rw[compTurn_list]
 refine wpAny_bind (wpAny_standAt (wpAny_bind (wpAny_mono (turn n s hI) (fun r s₁ h₁=>?_) fun _ _ h'=>h')))
 cases r with
 |none=>exact wpAny_pure h₁
 |some v =>
  refine wpAny_bind (wpAny_mono h₁ (fun _ s₁' h₁'=>?_) fun _ _ h'=>h')
  refine wpAny_bind (wpAny_mono h₁' (fun _ s₂ h₂=>wpAny_bind (wpAny_mono h₂ (fun ok s₃ h₃=>?_) fun _ _ h'=>h')) fun _ _ h'=>h')
  cases ok with
  |false=>exact wpAny_pure ⟨rfl,h₃⟩
  |true =>
   exact wpAny_bind (wpAny_bind (wpAny_mono h₃ (fun x s₄ h₄=>wpAny_bind (wpAny_mono h₄ (fun _ s₅ h₅=>wpAny_pure (wpAny_pure ⟨rfl,h₅⟩)) fun _ _ h'=>h')) fun _ _ h'=>h'))
section
variable {X:Cx}
def tLc(wi:TI)(g:TG)(tt:TT)(te:TE)(vs:List Nat):TE:=fun σ H Q=>wi σ H fun J H1=>∀D,H1 D=none→∃W:Nat→Nat→Hp→Prop,(∃m,W 0 m (upd H1 D (.lst [])))∧∀i m H,W i m H →
 (J.stop i H∧Q (.ref D) H)∨(J.go i H∧∃Nx:Hp→Prop,(∀H',Nx H'→∃m',m'<m∧W (i+1) m' H')∧∀x H',J.yld i H x H'→g x (wipe σ vs) H' fun σ2 H2=>wipe σ2 vs=wipe σ vs∧tt σ2 H2 fun b H3 =>
  if b=true then te σ2 H3 fun y H4=>∃acc,H4 D=some (.lst acc)∧acc.length<sizeLine∧Nx (upd H4 D (.lst (acc++[y])))else Nx H3)
theorem WY{pins:List (Addr×Obj)}{s:Shared}{σ:St}{H:Hp}{Q:VK}{elt tg iter:Expr}{ifs:List Expr}{scope:Scope}{own:List (Str×Nat)}{pos pos':Pos}{wi:TI}{g:TG}{tt:TT}{te:TE}{use:Option (Value→Sem Unit)}{Qf:Value→Shared→Prop}
  (hc:X.calm=true) (hN:X.N.Nodup) (I:Inv X pins σ H s) (hi:PI X tg iter wi) (ok:wQ X.N X.env.scope scope own)
  (hg:∀(s:Shared) (H:Hp) (C:Addr) (cl:List (Str×Addr)) (fp:List Addr),PG (X.blk s H scope (compEnvC scope cl C X.env) fp) tg g) (ht:∀(s:Shared) (H:Hp) (C:Addr) (cl:List (Str×Addr)) (fp:List Addr),PTs (X.blk s H scope (compEnvC scope cl C X.env) fp) ifs tt)
  (he:∀(s:Shared) (H:Hp) (C:Addr) (cl:List (Str×Addr)) (fp:List Addr),PE (X.blk s H scope (compEnvC scope cl C X.env) fp) elt te) (hs:∀x,foldedSetIterable iter X.env x=pure x)
  (h:tLc wi g tt te (own.map (·.2)) σ H Q)
  (hRR:∀D C s' m H',Inv X pins σ H' s'→Q (.ref D) H'→s'.heap.Ns C m→sY X pins H' C→compPost (model X.prog X.w) X.A X.xe use Qf (.ref D) C (.ok .next) s') :
  wpAny (model X.prog X.w) X.A (comprehension (.ListComp elt [⟨tg,iter,ifs,0⟩] scope pos) scope X.env pos' (newList []) false (eval iter X.env) use) Qf X.xe s:=by
 have hfree:∀y∈scope.names,y.2=.free→∃c,X.env.cells.lookup y.1=some c:=fun y hy e=>by
  rcases ok.free y hy e with k|k
  ·exact I.ok.has _ (.inl k)
  ·exact I.ok.has _ (.inr k)
 refine wpAny_comprehension_free (use:=use) rfl hs (CJ hfree) ok.kind (fun y hy e=>by rw[ok.uniq y hy,e])
  (thn (hi pins s σ H _ I h) fun xv s1 hx=>thn hx fun itv s2 h2=>?_)
 obtain⟨it,fp,tn,J,H2,e,I2,T,st2,f2,q⟩:=h2
 subst e
 refine wpAny_newObj_type (Sq ?_) (by show 0≤sizeLine;decide)
 generalize hD:s2.heap.objs.size=D
 have hDn:H2 D=none:=I2.hok.fresh (Nat.le_of_eq hD)
 obtain⟨W,⟨m0,w0⟩,turn⟩:=q D hDn
 generalize hs3:({s2 with heap:=s2.heap.push {cls:=.type "list",data:=.seq ([]:List Value).toArray}}:Shared)=s3
 have I3:Inv X pins σ (upd H2 D (.lst [])) s3:=by
  rw[← hs3]
  refine I2.laid (t':=s2.toks) (fun b o e=>Heap.get?_push_of_some _ e) (Nat.le_of_eq hD) ⟨Nat.zero_le _,[],0,.nil,?_⟩
  rw[← hD]
  exact Heap.get?_push_size _ rfl
 have h3:s3.heap=s2.heap.push {cls:=.type "list",data:=.seq ([]:List Value).toArray}:=by rw[← hs3]
 have sz:∀b∈fp,b<s2.heap.objs.size:=fun b hb=>by
  obtain⟨o,e,_⟩:=T.obj _ _ st2 b hb
  exact Heap.lt_size e
 have f3:∀b∈fp,sY X pins (upd H2 D (.lst [])) b∧b<s3.heap.objs.size:=fun b hb=>by
  have hlt:=sz b hb
  refine⟨⟨?_,(f2 b hb).2⟩,by rw[h3,Heap.size_push];exact Nat.lt_succ_of_lt hlt⟩
  rw[aO (by rw[← hD];exact Nat.ne_of_lt hlt)]
  exact(f2 b hb).1
 have st3:tn 0 s3.heap:=T.keep _ _ _ st2 fun b _ o e=>by rw[h3];exact Heap.get?_push_of_some _ e
 have I4:=Rn I3 ok hN f3
 have pg:=hg s3 (upd H2 D (.lst [])) s3.heap.objs.size (cellsFrom (s3.heap.objs.size+1) scope.names (bx X.env.cells scope.names [])) fp
 have pt:=ht s3 (upd H2 D (.lst [])) s3.heap.objs.size (cellsFrom (s3.heap.objs.size+1) scope.names (bx X.env.cells scope.names [])) fp
 have pe:=he s3 (upd H2 D (.lst [])) s3.heap.objs.size (cellsFrom (s3.heap.objs.size+1) scope.names (bx X.env.cells scope.names [])) fp
 show codeAny _ _ (.compStart (.ListComp elt [⟨tg,iter,ifs,0⟩] scope pos) 0 (.ref it) (.ref D) (compEnvC scope (cellsFrom (s3.heap.objs.size+1) scope.names (bx X.env.cells scope.names [])) s3.heap.objs.size X.env)) (compPost (model X.prog X.w) X.A X.xe use Qf (.ref D) s3.heap.objs.size) {s3 with heap:=pushCells (s3.heap.push {cls:=.type "dict",data:=.dict #[]}) scope.names}
 have nfp:∀b∈fp,(upd H2 D (.lst [])) b=none:=fun b hb=>(f3 b hb).1.1
 generalize hce:compEnvC scope (cellsFrom (s3.heap.objs.size+1) scope.names (bx X.env.cells scope.names [])) s3.heap.objs.size X.env=ce at I4 pg pt pe ⊢
 have cL:ce.locals=s3.heap.objs.size:=by subst hce;rfl
 generalize hH3:upd H2 D (.lst [])=H3 at I3 I4 pg pt pe w0 nfp f3
 generalize hs4:({s3 with heap:=pushCells (s3.heap.push {cls:=.type "dict",data:=.dict #[]}) scope.names}:Shared)=s4 at I4 ⊢
 have st4:tn 0 s4.heap:=T.keep _ _ _ st3 fun b _ o e=>by rw[← hs4];exact pushCells_keeps _ _ _ _ (Heap.get?_push_of_some _ e)
 have stat:∀{σ':St} {H':Hp} {s':Shared},Inv (X.blk s3 H3 scope ce fp) [] σ' H' s'→(∀b∈fp,H' b=none)→∀b∈fp,sY (X.blk s3 H3 scope ce fp) [] H' b:=fun{σ' H' s'} I' hn b hb =>
  ⟨hn b hb,(I'.ok.exf b hb).1,I'.ok.U5 b hb,.inl hb,fun x c e=>(I'.ok.exf b hb).2 x c e,fun p hp=>absurd (show p∈([]:List (Addr×Obj))++[]from hp) (by simp)⟩
 have loop:codeAny (model X.prog X.w) X.A (.compLoop (.ListComp elt [⟨tg,iter,ifs,0⟩] scope pos) 0 (.ref it) (.ref D) ce) (compPost (model X.prog X.w) X.A X.xe use Qf (.ref D) s3.heap.objs.size) s4:=by
  refine PN (fun n s'=>∃i H',Inv (X.blk s3 H3 scope ce fp) [] (wipe σ (own.map (·.2))) H' s'∧tn i s'.heap∧(∀b∈fp,H' b=none)∧W i n H') ?_ m0 ⟨0,H3,I4,st4,nfp,w0⟩
  rintro n s5 ⟨i,H5,I5,st5,n5,w5⟩
  rcases turn i n H5 w5 with ⟨stop,qq⟩|⟨go,Nx,hNx,step⟩
  ·have td:=T.done (X.blk s3 H3 scope ce fp) rfl rfl rfl hc i [] s5 _ H5 (fun _ _=>False) I5 (stat I5 n5) st5 stop
   refine Y6 td fun r s6 ⟨hr,I6⟩=>?_
   subst hr
   have I7:Inv X pins σ H5 s6:=I3.call' (ch:=fp) I6.os I6.base I6.hok I6.bare fun b hb=>⟨(f3 b hb).1.2.2.2.1,(f3 b hb).1.2.1,(f3 b hb).1.2.2.2.2.1,(f3 b hb).1.2.2.2.2.2⟩
   have nC:H5 s3.heap.objs.size=none:=by
    have z:H5 ce.locals=none:=I6.free
    rw[cL]at z
    exact z
   obtain⟨m,hn,_⟩:=I6.loc
   have hn:s6.heap.Ns ce.locals m:=hn
   rw[cL]at hn
   exact hRR D s3.heap.objs.size s6 m H5 I7 qq hn (I3.X5 (Nat.le_refl _) nC)
  ·have ti:=T.item (X.blk s3 H3 scope ce fp) rfl rfl rfl hc i [] s5 _ H5 (fun _ _=>False) I5 (stat I5 n5) st5 go
   refine Y6 ti fun r s6 ⟨u,hr,h6⟩=>?_
   subst hr
   refine Y6 h6 fun _ s7 ⟨x,H7,I7,r7,y7,st7,n7⟩=>?_
   have I7':=I7.pinned (stat I7 n7) (T.obj _ _ st7)
   refine Y6 (pg _ s7 _ H7 x u _ I7' r7 (step x H7 y7)) fun _ s8 ⟨σ8,H8,I8,hw8,q8⟩=>?_
   refine Y6 (pt _ s8 σ8 H8 _ I8 q8) fun b s9 ⟨H9,I9,q9⟩=>?_
   have fin:∀{s':Shared} {H':Hp},Inv (X.blk s3 H3 scope ce fp) ([]++Kz fp s7.heap) σ8 H' s'→Nx H'→∃m,m<n∧∃i H',Inv (X.blk s3 H3 scope ce fp) [] (wipe σ (own.map (·.2))) H' s'∧tn i s'.heap∧(∀b∈fp,H' b=none)∧W i m H':=fun{s' H'} I' nx=>by
    obtain⟨m',hm,w'⟩:=hNx H' nx
    have pin':∀b∈fp,∀o,s7.heap.get? b=some o→s'.heap.get? b=some o∧H' b=none:=fun b hb o e =>
     let z:=I'.pin (b,o) (List.mem_append_right _ (List.mem_append_right _ (uL hb e)))
     ⟨z.1,z.2.1⟩
    have hl:(wipe σ (own.map (·.2))).length=σ8.length:=by rw[← hw8,sX]
    refine⟨m',hm,i+1,H',(I'.xQ (pins:=[])).weak hl (fun j v e=>?_),T.keep _ _ _ st7 fun b hb o e=>(pin' b hb o e).1,fun b hb=>?_,w'⟩
    ·rw[← hw8]at e
     exact(Br e).1
    ·obtain⟨o,e,_⟩:=T.obj _ _ st7 b hb
     exact(pin' b hb o e).2
   cases b with
   |false =>
    simp only[Bool.false_eq_true,if_false]at q9 ⊢
    exact fin I9 q9
   |true =>
    simp only[if_true]at q9 ⊢
    refine Y6 (pe _ s9 σ8 H9 _ I9 q9) fun z s10 ⟨yv,H10,I10,r10,acc,hD10,hz10,nx⟩=>?_
    exact acH (X:=X.blk s3 H3 scope ce fp) I10 hD10 hz10 r10 fun s11 I11=>fin I11 nx
 exact codeAny_compStart_list loop (T.self X.A 0 _ _ _ st4 loop)
theorem ue{elt tg iter:Expr}{ifs:List Expr}{scope:Scope}{own:List (Str×Nat)}{pos:Pos}{wi:TI}{g:TG}{tt:TT}{te:TE}(hc:X.calm=true)(hN:X.N.Nodup)(hi:PI X tg iter wi)(ok:wQ X.N X.env.scope scope own)
  (hg:∀(s:Shared) (H:Hp) (C:Addr) (cl:List (Str×Addr)) (fp:List Addr),PG (X.blk s H scope (compEnvC scope cl C X.env) fp) tg g) (ht:∀(s:Shared) (H:Hp) (C:Addr) (cl:List (Str×Addr)) (fp:List Addr),PTs (X.blk s H scope (compEnvC scope cl C X.env) fp) ifs tt)
  (he:∀(s:Shared) (H:Hp) (C:Addr) (cl:List (Str×Addr)) (fp:List Addr),PE (X.blk s H scope (compEnvC scope cl C X.env) fp) elt te) (hs:∀x,foldedSetIterable iter X.env x=pure x:=by intro _;rfl) :
  PE X (.ListComp elt [⟨tg,iter,ifs,0⟩] scope pos) (tLc wi g tt te (own.map (·.2))):=by
 intro pins s σ H Q I h
 rw[eval_ListComp]
 refine WY hc hN I hi ok hg ht he hs h fun D C s' m H' I' q hn f=>⟨m,hn,fun h'' sb=>?_⟩
 obtain⟨f0,f1,f2,f3,f4,f5⟩:=f
 exact⟨.ref D,H',I'.turned (t':=s'.toks) (fun b o hb e=>(sb.2 b hb).trans e) f0 f1 f3 f4 f5,rfl,q⟩
theorem xH{i:Nat}{y:Str}{py:Pos}{elt tg iter:Expr}{ifs:List Expr}{scope:Scope}{own:List (Str×Nat)}{pos spos:Pos}{wi:TI}{g:TG}{tt:TT}{te:TE}(hc:X.calm=true)(hN:X.N.Nodup)(hy:X.N[i]?=some y)(hyl:X.env.scope.names.lookup y=some .local)
  (hsw:swapsWith (.ListComp elt [⟨tg,iter,ifs,0⟩] scope pos) (some (.Name y py)) spos.line X.env=pure true) (hi:PI X tg iter wi) (ok:wQ X.N X.env.scope scope own)
  (hg:∀(s:Shared) (H:Hp) (C:Addr) (cl:List (Str×Addr)) (fp:List Addr),PG (X.blk s H scope (compEnvC scope cl C X.env) fp) tg g) (ht:∀(s:Shared) (H:Hp) (C:Addr) (cl:List (Str×Addr)) (fp:List Addr),PTs (X.blk s H scope (compEnvC scope cl C X.env) fp) ifs tt)
  (he:∀(s:Shared) (H:Hp) (C:Addr) (cl:List (Str×Addr)) (fp:List Addr),PE (X.blk s H scope (compEnvC scope cl C X.env) fp) elt te) (hs:∀x,foldedSetIterable iter X.env x=pure x:=by intro _;rfl) :
  PS X (.Assign [.Name y py] (.ListComp elt [⟨tg,iter,ifs,0⟩] scope pos) spos) (Wd (tLc wi g tt te (own.map (·.2))) (uK i)):=by
 intro pins s σ H D I h
 rw[exec_Assign_Name_used _ _ _ _ hsw]
 refine wpAny_bind (wpAny_standAt (wpAny_bind ?_))
 show wpAny _ X.A (do let _ ← comprehension (.ListComp elt [⟨tg,iter,ifs,0⟩] scope pos) scope X.env (firstIterPos [⟨tg,iter,ifs,0⟩] pos) (newList []) false (eval iter X.env) (some (assign (.Name y py) X.env))) _ _ s
 have h:tLc wi g tt te (own.map (·.2)) σ H (fun x H1=>uK i x σ H1 D.nx):=h
 refine wpAny_bind (thn (WY (Qf:=fun _ s'=>SP X pins D .next s') hc hN I hi ok hg ht he hs h fun L C s' m H' I' q hn f=>?_) fun _ s' hq=>wpAny_pure (wpAny_pure hq))
 show wpAny _ _ (assign (.Name y py) X.env (.ref L)) _ _ _
 refine wpAny_assign_Name (Oi (v:=V.ref L) I' hN hy (.inl hyl) rfl (fun s2 I2 ⟨a,sb,ha⟩=>?_) (.inr hyl))
 obtain⟨f0,f1,f2,f3,f4,f5⟩:=f
 have haC:C≠a:=by
  rcases ha with z|z
  ·rw[z];exact f1
  ·exact fun e=>f4 y a z e.symm
 refine⟨m,hn.sameBut sb haC,fun h3 sb3=>?_⟩
 exact⟨_,H',I2.turned (t':=s2.toks) (fun b o hb e=>(sb3.2 b hb).trans e) f0 f1 f3 f4 f5,q⟩
theorem Bp{elt:Expr}{gs:List Comprehension}{scope:Scope}{pos py:Pos}{y:Str}{l:Nat}{env:Env}(hk:env.scope.kind=.function)(hy:env.scope.names.lookup y=some .local)(hl:(py.line==pos.line)=true)
  (ha:(scope.names.any fun(n,k)=>n==y&&(k==.local||k==.cell))=false):swapsWith (.ListComp elt gs scope pos) (some (.Name y py)) l env=pure true:=by
 have ky:env.kindOf y=some .local:=hy
 have hb:env.blockKind=.function:=by unfold Env.blockKind;rw[hk];rfl
 unfold swapsWith
 simp only[hb,ky,ha,Expr.pos,hl]
 rfl
end
theorem abK{K:PySem.W.Frag}{a:Addr}{xs:List V}{g:TG}{tt:TT}{te:TE}{vs:List Nat}{σ:St}{H1:Hp}{D:Addr}{Qd:Hp→Prop}(Pv:Nat→Hp→Prop)(h0:Pv 0 (upd H1 D (.lst [])))(hl:∀i H,i≤xs.length→Pv i H→SqL K H a xs)
  (hs:∀i x H,xs[i]?=some x→Pv i H→g x (wipe σ vs) H fun σ2 H2=>wipe σ2 vs=wipe σ vs∧tt σ2 H2 fun b H3 =>
   if b=true then te σ2 H3 fun y H4=>∃acc,H4 D=some (.lst acc)∧acc.length<sizeLine∧Pv (i+1) (upd H4 D (.lst (acc++[y])))else Pv (i+1) H3) (hd:∀H,Pv xs.length H→Qd H) :
  ∃W:Nat→Nat→Hp→Prop,(∃m,W 0 m (upd H1 D (.lst [])))∧∀i m H,W i m H →
   ((Itl K a).stop i H∧Qd H)∨((Itl K a).go i H∧∃Nx:Hp→Prop,(∀H',Nx H'→∃m',m'<m∧W (i+1) m' H')∧∀x H',(Itl K a).yld i H x H'→g x (wipe σ vs) H' fun σ2 H2=>wipe σ2 vs=wipe σ vs∧tt σ2 H2 fun b H3 =>
    if b=true then te σ2 H3 fun y H4=>∃acc,H4 D=some (.lst acc)∧acc.length<sizeLine∧Nx (upd H4 D (.lst (acc++[y])))else Nx H3):=by
 refine⟨fun i m H=>m=xs.length - i∧i≤xs.length∧Pv i H,⟨xs.length,by simp,Nat.zero_le _,h0⟩,?_⟩
 rintro i m H ⟨rfl,hi,p⟩
 have q:=hl i H hi p
 by_cases hlt:i<xs.length
 ·refine .inr ⟨⟨xs,xs[i],q,by simp[hlt]⟩,Pv (i+1),fun H' p'=>⟨xs.length - (i+1),by omega,rfl,hlt,p'⟩,fun x H' y=>?_⟩
  obtain⟨e,y⟩:=y
  subst e
  exact hs i x _ (y xs q) p
 ·have e:i=xs.length:=by omega
  subst e
  exact .inl ⟨⟨xs,q,Nat.le_refl _⟩,hd H p⟩
def qI(N:List Str)(sc scope:Scope)(own:List (Str×Nat)):Bool :=
 (match scope.kind with | .function=>true | _=>false)&&(scope.names.all fun y=>decide (scope.names.lookup y.1=some y.2))&&(own.all fun p=>decide (N[p.2]?=some p.1)) &&
  (scope.names.all fun y=>match y.2 with
   |.free=>(match sc.names.lookup y.1 with | some .cell=>true | some .free=>true | _=>false)
   |.local=>decide (y.1∈own.map (·.1))||decide (y.1∉N)
   |.cell=>decide (y.1∈own.map (·.1))||decide (y.1∉N)
   |_=>true)
theorem cF{N:List Str}{sc scope:Scope}{own:List (Str×Nat)}(h:qI N sc scope own=true):wQ N sc scope own:=by
 unfold qI at h
 simp only[Bool.and_eq_true,List.all_eq_true,decide_eq_true_eq]at h
 obtain⟨⟨⟨h1,h2⟩,h3⟩,h4⟩:=h
 refine⟨?_,h2,h3,fun y hy e=>?_,fun y hy e=>?_⟩
 ·split at h1
  ·assumption
  ·cases h1
 ·have q:=h4 y hy
  simp only[e]at q
  split at q<;>first | exact .inl (by assumption) | exact .inr (by assumption) | cases q
 ·have q:=h4 y hy
  rcases e with e|e<;>(simp only[e,Bool.or_eq_true,decide_eq_true_eq]at q;exact q)
end L2
namespace L2
open PySem PySem.Spec PyProof.Rows
section
variable {κ:Type}[DecidableEq κ]
def kE(kvs:List (κ×V))(k:κ):Option V:=(kvs.find? fun kv=>decide (kv.1=k)).map (·.2)
def putK(kvs:List (κ×V))(k:κ)(v:V):List (κ×V) :=
 if (kvs.any fun kv=>decide (kv.1=k))=true then kvs.map (fun kv=>if kv.1=k then (kv.1,v)else kv)else kvs++[(k,v)]
def BP(kvs:List (κ×V))(k:κ):List (κ×V):=kvs.filter fun kv=>decide (kv.1≠k)
theorem Lx{p:κ×V}{r:List (κ×V)}{k:κ}(e:p.1=k):kE (p::r) k=some p.2:=by simp[kE,List.find?_cons,e]
theorem Lw{p:κ×V}{r:List (κ×V)}{k:κ}(e:¬p.1=k):kE (p::r) k=kE r k:=by simp[kE,List.find?_cons,e]
theorem Fq(k:κ):∀kvs:List (κ×V),(kvs.any fun kv=>decide (kv.1=k))=(kE kvs k).isSome
 |[]=>rfl
 |p::r=>by
  rw[List.any_cons]
  by_cases e:p.1=k
  ·simp only[Lx e,decide_eq_true e,Bool.true_or,Option.isSome_some]
  ·rw[Lw e,decide_eq_false e,Bool.false_or];exact Fq k r
theorem Hy(kvs:List (κ×V))(k:κ)(v:V):(putK kvs k v).length≤kvs.length+1:=by
 unfold putK
 split
 ·rw[List.length_map];omega
 ·rw[List.length_append,List.length_cons,List.length_nil];omega
theorem S6{kvs:List (κ×V)}{k:κ}(v:V)(h:kE kvs k=none):putK kvs k v=kvs++[(k,v)]:=by
 unfold putK
 rw[Fq,h]
 exact if_neg (by decide)
theorem yS.Be{o:Option V}{u:Option Value}(r:yS o u):o.isSome=u.isSome:=by
 cases o with
 |none=>cases u with
  |none=>rfl
  |some _=>exact(show False from r).elim
 |some _=>cases u with
  |none=>exact(show False from r).elim
  |some _=>rfl
theorem KV.val{kvs:List (κ×V)}{vs:List (κ×Value)}(r:KV kvs vs)(k:κ):yS (kE kvs k) (valueAt vs k):=by
 unfold KV at r
 induction r with
 |nil=>exact True.intro
 |@cons p q ps qs h t ih =>
  obtain⟨h1,h2⟩:=h
  by_cases e:p.1=k
  ·have e':q.1=k:=h1.symm.trans e
   have b:valueAt (q::qs) k=some q.2:=by simp[valueAt,List.find?_cons,e']
   rw[Lx e,b];exact h2
  ·have e':¬q.1=k:=fun z=>e (h1.trans z)
   have b:valueAt (q::qs) k=valueAt qs k:=by simp[valueAt,List.find?_cons,e']
   rw[Lw e,b];exact ih
theorem KV.any{kvs:List (κ×V)}{vs:List (κ×Value)}(r:KV kvs vs)(k:κ):(kvs.any fun kv=>decide (kv.1=k))=vs.any fun kv=>decide (kv.1=k):=by
 unfold KV at r
 induction r with
 |nil=>rfl
 |cons h t ih=>rw[List.any_cons,List.any_cons,ih,h.1]
theorem KV.repl{kvs:List (κ×V)}{vs:List (κ×Value)}(r:KV kvs vs)(k:κ){y:V}{u:Value}(ry:RelV y u) :
  KV (kvs.map fun kv=>if kv.1=k then (kv.1,y)else kv) (vs.map fun kv=>if kv.1=k then (kv.1,u)else kv):=by
 unfold KV at r ⊢
 induction r with
 |nil=>exact .nil
 |@cons p q ps qs h t ih =>
  rw[List.map_cons,List.map_cons]
  refine .cons ?_ ih
  obtain⟨h1,h2⟩:=h
  by_cases e:p.1=k
  ·rw[if_pos e,if_pos (h1.symm.trans e)];exact⟨h1,ry⟩
  ·rw[if_neg e,if_neg (fun z=>e (h1.trans z))];exact⟨h1,h2⟩
theorem KV.put{kvs:List (κ×V)}{vs:List (κ×Value)}(r:KV kvs vs)(k:κ){y:V}{u:Value}(ry:RelV y u):KV (putK kvs k y) (stored vs k u):=by
 unfold putK stored
 rw[r.any k]
 by_cases e:(vs.any fun kv=>decide (kv.1=k))=true
 ·rw[if_pos e,if_pos e];exact r.repl k ry
 ·rw[if_neg e,if_neg e];exact Paired.snoc r ⟨rfl,ry⟩
theorem KV.drop{kvs:List (κ×V)}{vs:List (κ×Value)}(r:KV kvs vs)(k:κ):KV (BP kvs k) (without vs k):=by
 unfold KV at r ⊢
 unfold BP without
 induction r with
 |nil=>exact .nil
 |@cons p q ps qs h t ih =>
  obtain⟨h1,h2⟩:=h
  rw[List.filter_cons,List.filter_cons]
  by_cases e:p.1=k
  ·have a:¬decide (p.1≠k)=true:=by simp[e]
   have b:¬decide (q.1≠k)=true:=by simp[h1.symm.trans e]
   rw[if_neg a,if_neg b];exact ih
  ·have e':¬q.1=k:=fun z=>e (h1.trans z)
   have a:decide (p.1≠k)=true:=by simp[e]
   have b:decide (q.1≠k)=true:=by simp[e']
   rw[if_pos a,if_pos b];exact .cons ⟨h1,h2⟩ ih
theorem KV.length{kvs:List (κ×V)}{vs:List (κ×Value)}(r:KV kvs vs):kvs.length=vs.length:=Paired.length r
theorem RB(kvs:List (κ×V))(k:κ):(BP kvs k).length≤kvs.length:=List.length_filter_le _ _
end
theorem J6{P:Program}{w:World}{k:Key}{u:Value}(r:RelV (kV k) u):(e_ P w).is k u=true:=by
 cases k with
 |inl i=>obtain⟨t,e⟩:=(show ∃t,u=Value.int i t from r);subst e;exact zH P w i t
 |inr x=>obtain⟨t,e⟩:=(show ∃t,u=Value.str x t from r);subst e;exact R_ P w x t
theorem NB{P:Program}{w:World}:∀{ks:List Key} {us:List Value},Vals (ks.map kV) us→ItemsAre (e_ P w) ks us
 |[],_,r=>by rw[List.map_nil]at r;cases r;exact .nil
 |k::ks,_,r=>by
  rw[List.map_cons]at r
  cases r with
  |cons h t=>exact .cons (J6 h) (NB t)
abbrev KT(H:Hp):List (List Key×V)→List (List Key×Addr×Value)→Prop:=Paired fun p q=>p.1=q.1∧H q.2.1=some (.tup (p.1.map kV))∧RelV p.2 q.2.2
theorem KT.val{H:Hp}{kvs:List (List Key×V)}{xs:List (List Key×Addr×Value)}(r:KT H kvs xs)(k:List Key):yS (kE kvs k) ((atKey xs k).map (·.2)):=by
 induction r with
 |nil=>exact True.intro
 |@cons p q ps qs h t ih =>
  obtain⟨h1,_,h2⟩:=h
  by_cases e:p.1=k
  ·have e':q.1=k:=h1.symm.trans e
   have b:atKey (q::qs) k=some q.2:=by simp[atKey,List.find?_cons,e']
   rw[Lx e,b];exact h2
  ·have e':¬q.1=k:=fun z=>e (h1.trans z)
   have b:atKey (q::qs) k=atKey qs k:=by simp[atKey,List.find?_cons,e']
   rw[Lw e,b];exact ih
theorem KT.repl{H:Hp}{kvs:List (List Key×V)}{xs:List (List Key×Addr×Value)}(r:KT H kvs xs)(k:List Key){y:V}{u:Value}(ry:RelV y u) :
  KT H (kvs.map fun kv=>if kv.1=k then (kv.1,y)else kv) (xs.map (putAt k u)):=by
 induction r with
 |nil=>exact .nil
 |@cons p q ps qs h t ih =>
  rw[List.map_cons,List.map_cons]
  refine .cons ?_ ih
  obtain⟨h1,h2,h3⟩:=h
  unfold putAt
  by_cases e:p.1=k
  ·rw[if_pos e,if_pos (h1.symm.trans e)];exact⟨h1,h2,ry⟩
  ·rw[if_neg e,if_neg (fun z=>e (h1.trans z))];exact⟨h1,h2,h3⟩
theorem KT.put{H:Hp}{kvs:List (List Key×V)}{xs:List (List Key×Addr×Value)}(r:KT H kvs xs)(k:List Key){b:Addr}{y:V}{u:Value}(hb:H b=some (.tup (k.map kV)))(ry:RelV y u) :
  KT H (putK kvs k y) (storedH xs k b u):=by
 have e:(kvs.any fun kv=>decide (kv.1=k))=(atKey xs k).isSome:=by
  rw[Fq,(r.val k).Be,Option.isSome_map]
 unfold putK storedH
 rw[e]
 by_cases q:(atKey xs k).isSome=true
 ·rw[if_pos q,if_pos q];exact r.repl k ry
 ·rw[if_neg q,if_neg q];exact Paired.snoc r ⟨rfl,hb,ry⟩
theorem KT.keeps{H H':Hp}{kvs:List (List Key×V)}{xs:List (List Key×Addr×Value)}(r:KT H kvs xs)(ht:∀b ys,H b=some (.tup ys)→H' b=some (.tup ys)):KT H' kvs xs :=
 Paired.adf r fun _ _ z=>⟨z.1,ht _ _ z.2.1,z.2.2⟩
section
variable {P:Program}{w:World}{H:Hp}{h:Heap}{a:Addr}
theorem acy{u:HO}(ok:HOk P w H h)(e:Rd H a u):ie P w H h a u:=e.ok ok
theorem Nr{kvs:List (Key×V)}(ok:HOk P w H h)(e:Rd H a (.dK kvs)):kvs.length≤sizeLine∧(a==sysModules)=false∧∃vs,KV kvs vs∧h.DictOf (e_ P w) a vs :=
 show ie P w H h a (.dK kvs)from acy ok e
theorem Rz{kvs:List (Key×V)}(ok:HOk P w H h)(e:H a=some (.dK kvs)):kvs.length≤sizeLine∧(a==sysModules)=false∧∃vs,KV kvs vs∧h.DictOf (e_ P w) a vs:=Nr ok (.inl e)
theorem Qn{ks:List Key}(ok:HOk P w H h)(e:H a=some (.tup (ks.map kV))):(tupleKind (e_ P w)).is h ks a:=by
 obtain⟨_,its,r,o,h1,h2,n,h3⟩:=(show ie P w H h a (.tup (ks.map kV))from ok a _ e)
 exact⟨o,its.toArray,n,h1,h2,h3,by simpa using NB r⟩
theorem RC{kvs:List (List Key×V)}(ok:HOk P w H h)(e:Rd H a (.dT kvs)):kvs.length≤sizeLine∧(a==sysModules)=false ∧
  ∃xs,KT H kvs xs∧h.DictOfH (tupleKind (e_ P w)) a xs:=by
 obtain⟨z,y,xs,r,o,es,ep,h1,h2,h3,h4,h5⟩:=(show ie P w H h a (.dT kvs)from acy ok e)
 refine⟨z,y,xs,r,o,es,ep,h1,h2,h3,h4,fun x hx=>?_,h5⟩
 have all:∀{l:List (List Key×V)} {m:List (List Key×Addr×Value)},KT H l m→∀x∈m,(tupleKind (e_ P w)).is h x.1 x.2.1:=by
  intro l m q
  induction q with
  |nil=>intro x hx;exact nomatch hx
  |@cons p q ps qs hq t ih =>
   intro x hx
   rcases List.mem_cons.mp hx with e|hx
   ·subst e
    exact Qn ok (by rw[← hq.1];exact hq.2.1)
   ·exact ih x hx
 exact all r x hx
theorem adP{kvs:List (List Key×V)}(ok:HOk P w H h)(e:H a=some (.dT kvs)):kvs.length≤sizeLine∧(a==sysModules)=false ∧
  ∃xs,KT H kvs xs∧h.DictOfH (tupleKind (e_ P w)) a xs:=RC ok (.inl e)
end
def O2(H:Hp)(a:Addr)(y:V)(r:Option V):Prop :=
 (∃kvs k,Rd H a (.dK kvs)∧y=kV k∧r=kE kvs k)∨∃kvs k b,Rd H a (.dT kvs)∧y=.ref b∧H b=some (.tup (k.map kV))∧r=kE kvs k
def Xl(H:Hp)(a:Addr)(y v:V)(H':Hp):Prop :=
 (∃kvs k,H a=some (.dK kvs)∧y=kV k∧kvs.length<sizeLine∧H'=upd H a (.dK (putK kvs k v))) ∨
 ∃kvs k b,H a=some (.dT kvs)∧y=.ref b∧H b=some (.tup (k.map kV))∧kvs.length<sizeLine∧H'=upd H a (.dT (putK kvs k v))
theorem O2.k{H:Hp}{a:Addr}{kvs:List (Key×V)}{k:Key}(e:H a=some (.dK kvs)):O2 H a (kV k) (kE kvs k):=.inl ⟨kvs,k,.inl e,rfl,rfl⟩
theorem Xl.k{H:Hp}{a:Addr}{kvs:List (Key×V)}{k:Key}{v:V}(e:H a=some (.dK kvs))(hl:kvs.length<sizeLine):Xl H a (kV k) v (upd H a (.dK (putK kvs k v))):=.inl ⟨kvs,k,e,rfl,hl,rfl⟩
section
variable {X:Cx}{pins:List (Addr×Obj)}{σ:St}{H:Hp}{s:Shared}{a:Addr}{y v:V}{u r:Value}{o:Option V}{A:Around}{E:Value→Shared→Prop}
theorem Inv.big(I:Inv X pins σ H s):sysModules<s.heap.objs.size:=by
 have h:mainGlobals<s.heap.objs.size:=(I.mod.glob.keeps I.bk).lt
 exact Nat.lt_trans (by decide) h
theorem XH{Q:Value→Shared→Prop}(hu:A.units+1<cLine)(I:Inv X pins σ H s)(g:O2 H a y (some v))(ry:RelV y u)(h:∀w' s',Inv X pins σ H s'→RelV v w'→Q w' s') :
  wpAny (model X.prog X.w) A (getItem (.ref a) u) Q E s:=by
 rcases g with ⟨kvs,k,e,ey,l⟩|⟨kvs,k,b,e,ey,eb,l⟩
 ·subst ey
  obtain⟨z,hd,vs,rel,dd⟩:=Nr I.hok e
  obtain⟨w',hw,rw'⟩:=yS.some_of (v:=v) (o:=valueAt vs k) (by rw[l];exact rel.val k)
  exact wpAny_getItem_of (J6 ry) dd.mapOf hw (h w' _ (I.tok _) rw')
 ·subst ey
  cases (show u=Value.ref b from ry)
  obtain⟨z,hd,xs,rel,dd⟩:=RC I.hok e
  obtain⟨w',hw,rw'⟩:=yS.some_of (v:=v) (o:=(atKey xs k).map (·.2)) (by rw[l];exact rel.val k)
  obtain⟨p,hp,hp2⟩:=Option.map_eq_some_iff.mp hw
  refine wpAny_getItem_heap (tupleKind_room_in1 hu) (Qn I.hok eb) dd hp ?_
  rw[hp2]
  exact h w' _ (I.tok _) rw'
theorem abt{Q:Value→Shared→Prop}(hu:A.units+1<cLine)(I:Inv X pins σ H s)(g:O2 H a y o)(ry:RelV y u)(h:∀s',Inv X pins σ H s'→Q (.bool (!o.isSome)) s') :
  wpAny (model X.prog X.w) A (compareOp .NotIn u (.ref a)) Q E s:=by
 rcases g with ⟨kvs,k,e,ey,l⟩|⟨kvs,k,b,e,ey,eb,l⟩
 ·subst ey
  obtain⟨z,hd,vs,rel,dd⟩:=Nr I.hok e
  refine wpAny_notIn_of (J6 ry) hd dd.mapOf ?_
  rw[← (rel.val k).Be,← l]
  exact h _ (I.tok _)
 ·subst ey
  cases (show u=Value.ref b from ry)
  obtain⟨z,hd,xs,rel,dd⟩:=RC I.hok e
  refine wpAny_notIn_heap (tupleKind_room_in1 hu) (Qn I.hok eb) hd dd ?_
  have q:=(rel.val k).Be
  rw[Option.isSome_map]at q
  rw[← q,← l]
  exact h _ (I.tok _)
theorem Ir{h':Heap}{t':Nat}{ob:HO}(I:Inv X pins σ H s)(mu:Mut (H a))(hs:Heap.SameBut a s.heap h')(he:∃q,h'.get? a=some q)(new:ie X.prog X.w (upd H a ob) h' a ob) :
  Inv X pins σ (upd H a ob) {s with heap:=h',toks:=t'} :=
 I.write (x:=a) (e:=a) mu (.inl rfl) (fun b q hb z=>(hs.2 b hb).trans z) he new
theorem U0{P:Program}{w:World}{H':Hp}{h':Heap}{kvs:List (Key×V)}{vs:List (Key×Value)}(z:kvs.length≤sizeLine)(hd:(a==sysModules)=false)(rel:KV kvs vs)(dd:h'.DictOf (e_ P w) a vs) :
  ie P w H' h' a (.dK kvs):=⟨z,hd,vs,rel,dd⟩
theorem XJ{H':Hp}{Q:Unit→Shared→Prop}(hu:A.units+1<cLine)(I:Inv X pins σ H s)(g:Xl H a y v H')(ry:RelV y u)(rv:RelV v r)(h:∀s',Inv X pins σ H' s'→Q () s') :
  wpAny (model X.prog X.w) A (setItem (.ref a) u r) Q E s:=by
 rcases g with ⟨kvs,k,e,ey,l,eH⟩|⟨kvs,k,b,e,ey,eb,l,eH⟩
 ·subst ey eH
  obtain⟨z,hd,vs,rel,dd⟩:=Rz I.hok e
  have hz:vs.length≤sizeLine:=by rw[← rel.length];exact z
  have hl:(putK kvs k v).length≤sizeLine:=by have:=Hy kvs k v;omega
  refine wpAny_setItem_pairs (hsz:=hz) (J6 ry) dd fun h' dd' hs=>h _ ?_
  have he:∃q,h'.get? a=some q:=let ⟨q,_,_,hq,_⟩:=dd';⟨q,hq⟩
  exact Ir I (by rw[e];exact True.intro) hs he (U0 hl hd (rel.put k rv) dd')
 ·subst ey eH
  cases (show u=Value.ref b from ry)
  obtain⟨z,hd,xs,rel,dd⟩:=adP I.hok e
  have hz:xs.length≤sizeLine:=by rw[← Paired.length rel];exact z
  have hl:(putK kvs k v).length≤sizeLine:=by have:=Hy kvs k v;omega
  refine wpAny_setItem_heap (hsz:=hz) (tupleKind_room_in1 hu) (Qn I.hok eb) dd fun h' dd' hs=>h _ ?_
  obtain⟨q,es,ep,hq,h2,h3,h4,_,h5⟩:=dd'
  refine Ir I (by rw[e];exact True.intro) hs ⟨q,hq⟩ ⟨hl,hd,_,(rel.put k eb rv).keeps fun c ys ec=>?_,q,es,ep,hq,h2,h3,h4,h5⟩
  rw[aO (cB ec e (fun z=>nomatch z))]
  exact ec
end
section
variable {X:Cx}{pins:List (Addr×Obj)}{σ:St}{H:Hp}{s:Shared}{a:Addr}{kvs:List (Key×V)}{k:Key}{u:Value}{A:Around}{E:Value→Shared→Prop}
theorem adI{Q:Unit→Shared→Prop}(I:Inv X pins σ H s)(e:H a=some (.dK kvs))(ry:RelV (kV k) u)(l:(kE kvs k).isSome=true)(h:∀s',Inv X pins σ (upd H a (.dK (BP kvs k))) s'→Q () s') :
  wpAny (model X.prog X.w) A (delItem (.ref a) u) Q E s:=by
 obtain⟨z,hd,vs,rel,dd⟩:=Rz I.hok e
 refine wpAny_delItem_slot dd.typeIs (by decide) PySem.F.slot_dict_delitem
  (call_meetsIn PySem.F.slot_dict_delitem dd.typeIs PySem.F.entry_dict_delitem (PySem.F.args_dict_delitem_2 _ _) (meets_dict_delitem_pairs (e_ X.prog X.w) a (J6 ry)) ⟨vs,dd,by rw[← rel.length];exact z,by rw[← (rel.val k).Be];exact l,fun h' dd' hs=>h _ ?_⟩)
 have he:∃q,h'.get? a=some q:=let ⟨q,_,_,hq,_⟩:=dd';⟨q,hq⟩
 exact Ir I (by rw[e];exact True.intro) hs he (U0 (Nat.le_trans (RB kvs k) z) hd (rel.drop k) dd')
theorem adO{v:V}{more:List Value}{Q:Value→Shared→Prop}(I:Inv X pins σ H s)(e:H a=some (.dK kvs))(ry:RelV (kV k) u)(l:kE kvs k=some v)(hm:more=[]∨∃x,more=[x])
  (h:∀w' s',Inv X pins σ (upd H a (.dK (BP kvs k))) s'→RelV v w'→Q w' s'):wpAny (model X.prog X.w) A (call (.builtin "dict.pop") (.ref a::u::more)) Q E s:=by
 obtain⟨z,hd,vs,rel,dd⟩:=Rz I.hok e
 obtain⟨w',hw,rw'⟩:=yS.some_of (v:=v) (o:=valueAt vs k) (by rw[← l];exact rel.val k)
 have hp:(keyPart u).isSome=true:=by
  cases k with
  |inl i=>obtain⟨t,q⟩:=(show ∃t,u=Value.int i t from ry);subst q;rfl
  |inr x=>obtain⟨t,q⟩:=(show ∃t,u=Value.str x t from ry);subst q;rfl
 have ha:argsOk "dict.pop" ⟨.ref a::u::more,[]⟩:=by
  rcases hm with q|⟨x,q⟩
  ·subst q;exact PySem.F.args_dict_pop_2 _ _
  ·subst q;exact PySem.F.args_dict_pop_3 _ _ _
 refine call_meetsIn PySem.F.slot_dict_pop dd.typeIs PySem.F.entry_dict_pop ha (meets_dict_pop_there (e_ X.prog X.w) a (J6 ry) more hm hp)
  ⟨vs,w',dd,by rw[← rel.length];exact z,hw,fun h' dd' hs=>h w' _ ?_ rw'⟩
 have he:∃q,h'.get? a=some q:=let ⟨q,_,_,hq,_⟩:=dd';⟨q,hq⟩
 exact Ir I (by rw[e];exact True.intro) hs he (U0 (Nat.le_trans (RB kvs k) z) hd (rel.drop k) dd')
theorem adN{Q:Value→Shared→Prop}(I:Inv X pins σ H s)(e:Rd H a (.dK kvs))(h:∀t s',Inv X pins σ H s'→Q (.int kvs.length t) s'):wpAny (model X.prog X.w) A (call (.builtin "len") [.ref a]) Q E s:=by
 obtain⟨z,hd,vs,rel,dd⟩:=Nr I.hok e
 refine call_len_dict hd dd (by rw[← rel.length];rw[sizeLine_eq]at z;omega) ?_
 rw[← rel.length]
 exact h _ _ (I.tok _)
end
def acF(i:Expr):Prop:=∀ov iv,subscripted i false ov iv=operate [ov,iv] (getItem ov iv)
theorem Xf{prog:Program}{w:World}{A:Around}{E:Value→Shared→Prop}{s:Shared}{env:Env}{value slice:Expr}{pos:Pos}{T id:String}{Q:Value→Shared→Prop}
  (hl:typeLookup (.type T) "__getitem__" = pure (some (.builtin id))) (hs:acF slice)
  (h:wpAny (model prog w) A (eval value env) (fun o s₁=>wpAny (model prog w) A (eval slice env) (fun i s₂=>s₂.TypeIs o T∧wpAny (model prog w) A (getItem o i) Q E s₂) E s₁) E s) :
  wpAny (model prog w) A (eval (.Subscript value slice pos) env) Q E s:=by
 refine Subscript_ (wpAny_mono h (fun o s₁ h₁=>wpAny_mono h₁ (fun i s₂ h₂=>?_) fun _ _ x=>x) fun _ _ x=>x)
 obtain⟨hT,h₂⟩:=h₂
 unfold subscriptTail
 refine wpAny_bind ?_
 rw[getitemInPython_of_ne hT.not_modules]
 refine wpAny_bind (wpAny_specialOf hT hl ?_)
 have fin:wpAny (model prog w) A (subscripted slice false o i) (fun r s₃=>wpAny (model prog w) A (letTemporaryGo value o r >>= fun _=>pure r) Q E s₃) E s₂:=by
  rw[hs o i]
  exact wpAny_operating (wpAny_mono h₂ (fun r s₃ h₃=>wpAny_bind (wpAny_letTemporaryGo (wpAny_pure h₃))) fun _ _ x=>x)
 first
  |exact wpAny_pure (wpAny_bind fin)
  |exact wpAny_bind (wpAny_pure (wpAny_bind fin))
  |exact wpAny_bind fin
theorem Ry{X:Cx}{pins:List (Addr×Obj)}{σ:St}{H:Hp}{s:Shared}{a:Addr}{y:V}{o:Option V}(I:Inv X pins σ H s)(g:O2 H a y o):s.TypeIs (.ref a) "dict":=by
 rcases g with ⟨kvs,k,e,_,_⟩|⟨kvs,k,b,e,_,_,_⟩
 ·obtain⟨_,_,vs,_,dd⟩:=Nr I.hok e
  exact dd.typeIs
 ·obtain⟨_,_,xs,_,dd⟩:=RC I.hok e
  exact dd.typeIs
def aaZ(td ty:TE):TE:=fun σ H Q=>td σ H fun x H1=>ty σ H1 fun y H2=>∃a v,x=.ref a∧O2 H2 a y (some v)∧Q v H2
def Xg(ty td:TE):TE:=fun σ H Q=>ty σ H fun y H1=>td σ H1 fun x H2=>∃a o,x=.ref a∧O2 H2 a y o∧Q (.bl (!o.isSome)) H2
def aaM(td ty tv:TE):TS:=fun D σ H=>tv σ H fun v H1=>td σ H1 fun x H2=>ty σ H2 fun y H3=>∃a H4,x=.ref a∧Xl H3 a y v H4∧D.nx σ H4
section
variable {X:Cx}{o i e value:Expr}{pos pos' tpos:Pos}{td ty tv:TE}
theorem cM(hu:X.A.units+1<cLine)(ho:PE X o td)(hi:PE X i ty)(hs:acF i):PE X (.Subscript o i pos) (aaZ td ty):=by
 intro pins s σ H Q I h
 refine Xf PySem.F.slot_dict_getitem.lookup hs (thn (ho pins s σ H _ I h) fun u s1 ⟨x,H1,I1,rx,q1⟩=>thn (hi pins s1 σ H1 _ I1 q1) fun iv s2 ⟨y,H2,I2,ry,a,v,ex,g,q2⟩=>?_)
 subst ex
 obtain rfl:u=Value.ref a:=rx
 exact⟨Ry I2 g,XH hu I2 g ry fun w' s3 I3 rw'=>⟨v,H2,I3,rw',q2⟩⟩
theorem N5(hu:X.A.units+1<cLine)(hi:PE X i ty)(ho:PE X o td):PC X .NotIn i o (Xg ty td):=by
 intro pins s σ H Q I h
 refine thn (hi pins s σ H _ I h) fun iv s1 ⟨y,H1,I1,ry,q1⟩=>thn (ho pins s1 σ H1 _ I1 q1) fun u s2 ⟨x,H2,I2,rx,a,ov,ex,g,q2⟩=>?_
 subst ex
 obtain rfl:u=Value.ref a:=rx
 exact abt hu I2 g ry fun s3 I3=>⟨.bl (!ov.isSome),H2,I3,rfl,q2⟩
theorem Bk(hu:X.A.units+1<cLine)(ho:PE X o td)(hi:PE X i ty)(hv:PE X value tv)(hs:swapsWith value (some (.Subscript o i pos')) pos.line X.env=pure false) :
  PS X (.Assign [.Subscript o i pos'] value pos) (aaM td ty tv):=by
 intro pins s σ H D I h
 refine wpAny_Assign_Subscript (thn (hv pins s σ H _ I h) fun r s1 ⟨v,H1,I1,rv,q1⟩=>thn (ho pins s1 σ H1 _ I1 q1) fun u s2 ⟨x,H2,I2,rx,q2⟩=>thn (hi pins s2 σ H2 _ I2 q2) fun iv s3 ⟨y,H3,I3,ry,a,H4,ex,g,q3⟩=>?_) hs
 subst ex
 obtain rfl:u=Value.ref a:=rx
 exact XJ hu I3 g ry rv fun s4 I4=>⟨σ,H4,I4,q3⟩
end
theorem Zq{P:Program}{w:World}{H:Hp}(h:Heap)(hb:sysModules<h.objs.size):ie P w H (h.push {cls:=.type "dict",data:=.dict #[]}) h.objs.size (.dK []) :=
 ⟨Nat.zero_le _,beq_eq_false_iff_ne.mpr (Ne.symm (Nat.ne_of_lt hb)),[],.nil,Heap.DictOf.new h⟩
def aa0:TE:=fun _ H Q=>∀p,H p=none→Q (.ref p) (upd H p (.dK []))
section
variable {X:Cx}{pos:Pos}
theorem E_:PE X (.Dict [] [] pos) aa0:=fun pins s σ H Q I h =>
 wpAny_Dict_empty ⟨.ref s.heap.objs.size,_,I.laid (a:=s.heap.objs.size) (o:=.dK []) (t':=s.toks) (fun _ _ q=>Heap.get?_push_of_some _ q) (Nat.le_refl _) (Zq s.heap I.big),rfl,h _ (I.hok.fresh (Nat.le_refl _))⟩
end
structure M1(X:Cx)(o:Expr)(m:Str)(apos:Pos)(e:Expr)(cpos:Pos):Prop where
 base:attributeBase o m X.env (eval o X.env)=eval o X.env
 few:((backTo cpos (starEach [e] X.env)).all (fun x=>!x.1)&&(backToKw cpos (keywordEach [] X.env)).all (fun x=>x.1.isSome)
  && decide (([e]:List Expr).length+([]:List Keyword).length+(if ([]:List Keyword).isEmpty then 0 else 1)<30))=true
 line:(apos.endLine==cpos.line)=true
 trees:backTo cpos (starEach [e] X.env)=[(false,eval e X.env)]
def IsD(H:Hp)(a:Addr):Prop:=(∃kvs,Rd H a (.dK kvs))∨∃kvs,Rd H a (.dT kvs)
theorem ac0{X:Cx}{pins:List (Addr×Obj)}{σ:St}{H:Hp}{s:Shared}{a:Addr}(I:Inv X pins σ H s)(d:IsD H a) :
  s.TypeIs (.ref a) "dict"∧(∀b,Value.ref a=.ref b→∃ob,s.heap.get? b=some ob∧ob.dict=none)∧(a==sysModules)=false:=by
 rcases d with ⟨kvs,e⟩|⟨kvs,e⟩
 ·obtain⟨_,hd,vs,_,dd⟩:=Nr I.hok e
  refine⟨dd.typeIs,fun b q=>?_,hd⟩
  cases q
  obtain⟨ob,_,_,h1,h2,_⟩:=dd
  exact⟨ob,h1,h2.2.1⟩
 ·obtain⟨_,hd,xs,_,dd⟩:=RC I.hok e
  refine⟨dd.typeIs,fun b q=>?_,hd⟩
  cases q
  obtain⟨ob,_,_,h1,h2,_⟩:=dd
  exact⟨ob,h1,h2.2.1⟩
def aa1(td ty:TE):TE:=fun σ H Q=>td σ H fun x H1=>∃a,x=.ref a∧IsD H1 a∧ty σ H1 fun y H2=>∃kvs k v,H2 a=some (.dK kvs)∧y=kV k∧kE kvs k=some v∧Q v (upd H2 a (.dK (BP kvs k)))
section
variable {X:Cx}{o e f:Expr}{apos cpos:Pos}{td ty tx:TE}
theorem aaw(ho:PE X o td)(he:PE X e ty)(m:M1 X o "pop" apos e cpos):PE X (.Call (.Attribute o "pop" apos) [e] [] cpos) (aa1 td ty):=by
 intro pins s σ H Q I h
 refine wpAny_Call_method m.base m.few m.line PySem.F.plainAttrs_dict PySem.F.slot_dict_pop PySem.F.type_dict_pop (thn (ho pins s σ H _ I h) fun u s1 ⟨x,H1,I1,rx,a,ex,d,q1⟩=>?_)
 subst ex
 obtain rfl:u=Value.ref a:=rx
 obtain⟨t1,t2,_⟩:=ac0 I1 d
 refine⟨t1,t2,?_⟩
 rw[m.trees]
 refine Calls.callWith_builtin rfl (Calls.evalArgs_plain (Calls.spliced_cons (thn (he pins s1 σ H1 _ I1 q1) fun iv s2 ⟨y,H2,I2,ry,kvs,k,v,ea,ey,l,q2⟩=>Calls.spliced_nil ?_)))
 subst ey
 exact adO I2 ea ry l (.inl rfl) fun w' s3 I3 rw'=>⟨v,_,I3,rw',q2⟩
end
end L2
namespace L2
open PySem PySem.Spec PyProof.Rows
section
variable {X:Cx}
theorem adv{tg:Expr}{pins:List (Addr×Obj)}{σ:St}{H:Hp}{s:Shared}{R:It→Hp→Prop}{J:It}{tn:Nat→Heap→Prop}{tk:Nat}(I:Inv X pins σ H s)(o:Obj)
  (T:Turn X.prog X.w X.K tg J [s.heap.objs.size] s.heap.objs.size tn) (st:tn 0 (s.heap.push o)) (q:R J H):PIE X pins σ tg R (.ref s.heap.objs.size) {s with heap:=s.heap.push o,toks:=tk}:=by
 refine⟨s.heap.objs.size,[s.heap.objs.size],tn,J,H,rfl,I.kept fun b ob e=>Heap.get?_push_of_some _ e,T,st,fun b hb=>?_,q⟩
 have e:b=s.heap.objs.size:=by simpa using hb
 subst e
 exact I.X5 (Nat.le_refl _) (I.hok.fresh (Nat.le_refl _))
end
def Itc(lo c:Int)(n:Nat):It:=⟨fun i _=>i<n,fun i H x H'=>H'=H∧x=.int (lo+(i:Nat) * c),fun i _=>n≤i⟩
theorem TY{P:Program}{w:World}{K:PySem.W.Frag}{tg:Expr}(it:Addr)(lo c:Int)(n:Nat):Turn P w K tg (Itc lo c n) [it] it (fun i h=>IsRangeIter h it (lo+(i:Nat) * c) ((n:Int) - (i:Nat)) c) where
 mem:=by simp
 obj:=fun i h st b hb=>by
  have e:b=it:=by simpa using hb
  subst e
  exact⟨_,st,fun v z=>nomatch z⟩
 keep:=fun i h h' st k=>k it (by simp) _ st
 item:=by
  intro X hP hw hK hc i pins s σ H E I hf st hg
  subst hP hw hK
  obtain⟨f0,f1,f2,f3,f4,f5⟩:=hf it (by simp)
  have W:=Walks.range (prog:=X.prog) (w:=X.w) (I.ok.hd hc) it lo c n
  refine W.item i s _ _ hg st fun v h' tk hv st' kk=>?_
  obtain⟨t,rfl⟩:=hv
  have I1:Inv X pins σ H {s with heap:=h',toks:=tk}:=I.turned (fun b o hb e=>kk b o (by simpa using hb) e) f0 f1 f3 f4 f5
  exact⟨_,rfl,ZQ (s:={s with heap:=h',toks:=tk}) (n:="range_iterator") st' rfl rfl (by decide) ⟨.int (lo+(i:Nat) * c),H,I1,⟨t,rfl⟩,⟨rfl,rfl⟩,st',fun b hb=>(hf b hb).1⟩⟩
 done:=by
  intro X hP hw hK hc i pins s σ H E I hf st hg
  subst hP hw hK
  obtain⟨f0,f1,f2,f3,f4,f5⟩:=hf it (by simp)
  exact wpAny_pyNext_range_end (I.ok.hd hc) st (by have:n≤i:=hg;omega) fun h' eb=>⟨rfl,I.turned (t':=s.toks) (fun b o hb e=>eb b o hb e) f0 f1 f3 f4 f5⟩
 self:=fun A i s Q E st h=>wpAny_pyIter_rangeiter st h
def RgC(i j c:Int)(n:Nat):Prop:=c≠0∧c.natAbs<1073741824∧Builtin.Range.small i j c=true∧Builtin.Range.rangeSize i j c=n
def acr(ta:TA):TI:=fun σ H R=>ta σ H fun vs H1=>∃(i j c:Int) (n:Nat),vs=[.int i,.int j,.int c]∧RgC i j c n∧R (Itc i c n) H1
section
variable {X:Cx}{tg:Expr}
theorem YB{a b c:Expr}{ta:TA}{p pos:Pos}(hg:Gl X "range")(hm:X.mg "range" = none)(ha:PA X [a,b,c] ta)
  (hs:starEach [a,b,c] X.env=(false,eval a X.env)::starEach [b,c] X.env:=by rfl) (hpl:(backTo pos (starEach [b,c] X.env)).any (·.1)=false:=by rfl) :
  PI X tg (.Call (.Name "range" p) [a,b,c] [] pos) (acr ta):=by
 intro pins s σ H R I h
 refine Call_ (CV I hg hm boot_range (PyProof.Rows.callWith_type1 (thn (ha pos pins s σ H _ I h) fun us s1 ⟨vs,H1,I1,r1,q1⟩=>?_) hs hpl))
 obtain⟨i,j,k,n,e,⟨c0,c1,c2,c3⟩,q⟩:=q1
 subst e
 cases r1 with
 |cons r rr =>
  cases rr with
  |cons r' rr =>
   cases rr with
   |cons r'' rr =>
    cases rr
    obtain⟨t,rfl⟩:=r
    obtain⟨t',rfl⟩:=r'
    obtain⟨t'',rfl⟩:=r''
    refine call_range_3 c0 ?_ (.inl (PyProof.noPylong_small c1))
    refine wpAny_pyIter_range (IsRange.new ..) c2 ?_
    have I2:Inv X pins σ H1 {s1 with heap:=s1.heap.push {cls:=.type "range",data:=.fields #[.int i t,.int j t',.int k t'']}}:=I1.kept (t':=s1.toks) fun b o e=>Heap.get?_push_of_some _ e
    refine adv (tk:=s1.toks) I2 _ (TY _ i k n) ?_ q
    have e1:i+((0:Nat):Int) * k=i:=by simp
    have e2:(n:Int) - ((0:Nat):Int)=Builtin.Range.rangeSize i j k:=by rw[c3];simp
    show IsRangeIter _ _ (i+((0:Nat):Int) * k) ((n:Int) - ((0:Nat):Int)) k
    rw[e1,e2]
    exact Heap.get?_push_size _ rfl
end
theorem VD{α β:Type}{G:α→β→Prop}{l₁:List α}{l₂:List β}(h:Paired G l₁ l₂):∀{i:Nat} {a:α},l₁[i]?=some a→∃b,l₂[i]?=some b∧G a b:=by
 induction h with
 |nil=>intro i a e;simp at e
 |@cons a b l₁ l₂ r t ih =>
  intro i a' e
  cases i with
  |zero =>
   simp only[List.getElem?_cons_zero,Option.some.injEq]at e
   subst e
   exact⟨b,rfl,r⟩
  |succ j =>
   simp only[List.getElem?_cons_succ]at e ⊢
   exact ih e
end L2
namespace L2
open PySem PySem.Spec PyProof.Rows
abbrev CX0:CXT:=fun _ _ _ _ _ _=>False
abbrev E0:XK:=fun _ _ _=>False
theorem SJ{X:Cx}:Passes CX0 X E0:=fun _ _ _ _ _ _ _ h=>h.elim
section
variable {P:Program}{w:World}{K:PySem.W.Frag}{mg:Str→Option Value}{base:Heap}
theorem Fun.ok{x qual:Str}{st:Stmt}{f:Addr}{fd:FuncData}{N ps:List Str}{k:Nat}{sp:Sp}(F:Fun K x qual st f fd)(S:aG N ps (aA st))(len:∀vs H Q E,sp vs H Q E→vs.length=ps.length)
  (hbody:∀(cdv:Value) (A:Around) (outer:List Env) (s:Shared) (H:Hp) (vs:List V) (Q:VK) (E:XK),jx k (A.deeper (envOfC qual (aA st) s.heap.objs.size f cdv))→sp vs H Q E →
   ∃t,PSs (Mr CX0 P w K mg base N qual (aA st) f cdv A outer s H E).nox (iu st) t∧t {nx:=fun _ H'=>Q .non H',rt:=Q} (start N vs) H):bD P w K mg base CX0 (k+1) f fd ps sp:=by
 obtain⟨oc,od,kV,doc,pm,an,cdv,ct,osl,rfl,lk,hcd⟩:=F.ex
 refine aci lk hcd S len fun A outer s H vs Q E hr hsp=>?_
 obtain⟨t,h,q⟩:=hbody cdv A outer s H vs Q E hr hsp
 exact⟨t,h.nox,q⟩
end
theorem d9{A:Around}{k:Nat}(hr:jx k A):A.units+1<cLine:=Nat.lt_of_le_of_lt (Nat.add_le_add_left (by decide:1≤64) _) hr.units
section
variable {X:Cx}
theorem pv(i:Nat){x:Str}{pos:Pos}(hN:X.N[i]?=some x:=by rfl)(hv:Vis X.env.scope x:=by first | exact Or.inl rfl | exact Or.inr (Or.inl rfl) | exact Or.inr (Or.inr rfl))(hd:(x==("__debug__" : Str))=false:=by decide)
  (hcd:(x==("__classdict__" : Str))=false:=by decide):PE X (.Name x pos) (cu i):=adu hN hv hd hcd
theorem Nq:yI X (.builtin "len") (fun xs H Q=>∃a kvs,xs=[V.ref a]∧H a=some (.dK kvs)∧Q (.int kvs.length) H):=by
 intro pins s σ H xs us Q I r h
 obtain⟨a,kvs,rfl,ha,q⟩:=h
 obtain⟨u,rfl,ru⟩:=vals1 r
 cases ru
 exact adN I (.inl ha) fun t s' I'=>⟨.int kvs.length,H,I',⟨t,rfl⟩,q⟩
end
theorem Ie{A B:Prop}(h:B):if false=true then A else B:=by
 rw[if_neg Bool.false_ne_true]
 exact h
theorem Ig{A B:Prop}(h:A):if true=true then A else B:=by
 rw[if_pos rfl]
 exact h
def aY(H H':Hp):Prop:=∀b o,H b=some o→H' b=some o
theorem aY.refl(H:Hp):aY H H:=fun _ _ h=>h
theorem aY.trans{H H1 H2:Hp}(a:aY H H1)(b:aY H1 H2):aY H H2:=fun c o h=>b c o (a c o h)
theorem aY.free{H H':Hp}(e:aY H H'){l:Addr}(h:H' l=Option.none):H l=Option.none:=by
 cases q:H l with
 |none=>rfl
 |some o =>
  rw[e l o q]at h
  cases h
theorem acu{α:Type}{l:List α}(hN:l.Nodup){i j:Nat}{x:α}(a:l[i]?=some x)(b:l[j]?=some x):i=j:=by
 obtain⟨h1,e1⟩:=List.getElem?_eq_some_iff.mp a
 obtain⟨h2,e2⟩:=List.getElem?_eq_some_iff.mp b
 exact(List.getElem_inj hN).mp (e1.trans e2.symm)
end L2
end
section
set_option Elab.async false
set_option linter.all false
set_option maxRecDepth 100000
namespace L2
open PySem PySem.Spec PyProof.Rows
def EvP(t:TE)(σ:St)(H:Hp)(R:V→Hp→Prop):Prop:=∀H1,aY H H1→∀Q:VK,(∀v H',aY H1 H'→R v H'→Q v H')→t σ H1 Q
abbrev Ev(t:TE)(σ:St)(H:Hp)(v:V):Prop:=EvP t σ H fun u _=>u=v
def EvT(t:TT)(σ:St)(H:Hp)(b:Bool):Prop:=∀H1,aY H H1→∀Q:Bool→Hp→Prop,(∀H',aY H1 H'→Q b H')→t σ H1 Q
def EvA(t:TA)(σ:St)(H:Hp)(R:List V→Hp→Prop):Prop:=∀H1,aY H H1→∀Q:List V→Hp→Prop,(∀vs H',aY H1 H'→R vs H'→Q vs H')→t σ H1 Q
abbrev Bs(t:TA)(σ:St)(H:Hp)(xs:List V):Prop:=EvA t σ H fun us _=>us=xs
def IsL(xs:List V)(v:V)(H:Hp):Prop:=∃l,v=.ref l∧H l=some (.lst xs)
abbrev EvL(t:TE)(σ:St)(H:Hp)(xs:List V):Prop:=EvP t σ H (IsL xs)
theorem IsL.up{xs:List V}{v:V}{H H':Hp}(h:IsL xs v H)(s:aY H H'):IsL xs v H':=let ⟨l,e,q⟩:=h;⟨l,e,s _ _ q⟩
def Q_(R:V→Hp→Prop):Prop:=∀v H H',aY H H'→R v H→R v H'
section
variable {t ta tb tc:TE}{tt tu:TT}{u:TA}{σ:St}{H H':Hp}{R R1 R2':V→Hp→Prop}{v w x y:V}{b c:Bool}{xs ys zs:List V}{K:PySem.W.Frag}{a l:Addr}
theorem EvP.use(h:EvP t σ H R){Q:VK}(k:∀v H',aY H H'→R v H'→Q v H'):t σ H Q:=h H (aY.refl H) Q k
theorem Ev.use(h:Ev t σ H v){Q:VK}(k:∀H',aY H H'→Q v H'):t σ H Q:=h H (aY.refl H) Q fun u H' s e=>by subst e;exact k H' s
theorem EvA.use{R:List V→Hp→Prop}(h:EvA u σ H R){Q:List V→Hp→Prop}(k:∀v H',aY H H'→R v H'→Q v H'):u σ H Q:=h H (aY.refl H) Q k
theorem EvP.up(h:EvP t σ H R)(s:aY H H'):EvP t σ H' R:=fun H1 s1=>h H1 (s.trans s1)
theorem EvP.imp(h:EvP t σ H R)(k:∀v H',aY H H'→R v H'→R1 v H'):EvP t σ H R1:=fun H1 s Q q=>h H1 s Q fun v H' s' r=>q v H' s' (k v H' (s.trans s') r)
theorem Ev.cast(h:Ev t σ H v)(e:v=w):Ev t σ H w:=e▸h
theorem EvT.cast(h:EvT tt σ H b)(e:b=c):EvT tt σ H c:=e▸h
theorem EvL.cast(h:EvL t σ H xs)(e:xs=ys):EvL t σ H ys:=e▸h
theorem Ev.toL(h:Ev t σ H (.ref l))(e:H l=some (.lst xs)):EvL t σ H xs:=h.imp fun v H' s q=>⟨l,q,s _ _ e⟩
theorem aa{i:Nat}(h:σ[i]?=some (some v)):Ev (cu i) σ H v:=fun H1 s Q k=>⟨v,h,k v H1 (aY.refl _) rfl⟩
theorem Qe{i:Nat}(h:σ[i]?=some (some v))(r:R v H)(m:Q_ R):EvP (cu i) σ H R:=fun H1 s Q k=>⟨v,h,k v H1 (aY.refl _) (m _ _ _ s r)⟩
theorem aJ:Ev (tC v) σ H v:=fun H1 s Q k=>k v H1 (aY.refl _) rfl
theorem bZ{C dx:Addr}{fs:List (Str×V)}{f:Str}(ha:Ev ta σ H (.ref a))(e:H a=some (.ins C dx fs))(c:Cls K C)(n:cJ K C f)(l:fs.lookup f=some v):Ev (km K ta f) σ H v :=
 fun H1 s Q k=>ha H1 s _ fun x H2 s2 e2=>⟨a,C,dx,fs,v,e2,s2 _ _ (s _ _ e),c,n,l,k v H2 s2 rfl⟩
theorem Ny{r:R2}(ha:Ev ta σ H x)(hb:Ev tb σ H y)(hr:∀H1 (Q:VK),aY H H1→(∀v H',aY H1 H'→R v H'→Q v H')→r x y H1 Q):EvP (tOp r ta tb) σ H R :=
 fun H1 s Q k=>ha H1 s _ fun x' H2 s2 e=>by
  subst e
  exact hb H2 (s.trans s2) _ fun y' H3 s3 e=>by
   subst e
   exact hr H3 Q (s.trans (s2.trans s3)) fun v H' s' q=>k v H' (s2.trans (s3.trans s')) q
theorem eY{g:Int→Int→V}{i j:Int}(ha:Ev ta σ H (.int i))(hb:Ev tb σ H (.int j)):Ev (tOp (rI0 g) ta tb) σ H (g i j) :=
 Ny ha hb fun H1 Q s k=>⟨i,j,rfl,rfl,k _ H1 (aY.refl _) rfl⟩
theorem Iw{C:Int→Int→Prop}{g:Int→Int→V}{i j:Int}(ha:Ev ta σ H (.int i))(hb:Ev tb σ H (.int j))(hc:C i j):Ev (tOp (rI C g) ta tb) σ H (g i j) :=
 Ny ha hb fun H1 Q s k=>⟨i,j,rfl,rfl,hc,k _ H1 (aY.refl _) rfl⟩
theorem acg(ha:Ev ta σ H x)(hb:Ev tb σ H y)(e:ab4 x y=true):Ev (tOp rEq ta tb) σ H (.bl (decide (x=y))) :=
 Ny ha hb fun H1 Q s k=>⟨e,k _ H1 (aY.refl _) rfl⟩
theorem adR(ha:Ev ta σ H x)(hb:Ev tb σ H y)(e:ab4 x y=true):Ev (tOp rNe ta tb) σ H (.bl (!decide (x=y))) :=
 Ny ha hb fun H1 Q s k=>⟨e,k _ H1 (aY.refl _) rfl⟩
theorem bY{i j:Int}(ha:Ev ta σ H (.int i))(hb:Ev tb σ H (.int j)):Ev (tOp rEq ta tb) σ H (.bl (decide (i=j))) :=
 (acg ha hb rfl).cast (by congr 1;rw[Bool.eq_iff_iff];simp)
theorem fM{i j:Int}(ha:Ev ta σ H (.int i))(hb:Ev tb σ H (.int j)):Ev (tOp rNe ta tb) σ H (.bl (!decide (i=j))) :=
 (adR ha hb rfl).cast (by congr 1;rw[Bool.eq_iff_iff];simp)
theorem Zw{i j:Bool}(ha:Ev ta σ H (.bl i))(hb:Ev tb σ H (.bl j)):Ev (tOp rEq ta tb) σ H (.bl (i==j)) :=
 (acg ha hb rfl).cast (by congr 1;rw[Bool.eq_iff_iff];simp)
theorem Qa(ha:Ev ta σ H x)(hb:Ev tb σ H .non):Ev (tOp (fun x y H Q=>y=.non∧Q (.bl (decide (x=.non))) H) ta tb) σ H (.bl (decide (x=.non))) :=
 Ny ha hb fun H1 Q s k=>⟨rfl,k _ H1 (aY.refl _) rfl⟩
theorem Zz{i:Int}(ha:Ev ta σ H (.int i)):Ev (tUn (rU fun i=>.int (-i)) ta) σ H (.int (-i)):=fun H1 s Q k=>ha H1 s _ fun x H2 s2 e=>⟨i,e,k _ H2 s2 rfl⟩
theorem gn{p q:Int→Int→Bool}{i j n:Int}(ha:Ev ta σ H (.int i))(hb:Ev tb σ H (.int j))(hc:Ev tc σ H (.int n)) :
  Ev (We (rI0 fun i j=>.bl (p i j)) (rI0 fun i j=>.bl (q i j)) ta tb tc) σ H (.bl (p i j&&q j n)):=fun H1 s Q k =>
 ha H1 s _ fun x' H2 s2 e=>by
  subst e
  refine hb H2 (s.trans s2) _ fun y' H3 s3 e=>?_
  subst e
  refine⟨i,j,rfl,rfl,_,rfl,?_⟩
  cases h:p i j with
  |false=>exact Ie (k _ H3 (s2.trans s3) (by simp[h]))
  |true=>exact Ig (hc H3 (s.trans (s2.trans s3)) _ fun z H4 s4 e=>by
    subst e
    exact⟨j,n,rfl,rfl,k _ H4 (s2.trans (s3.trans s4)) (by simp[h])⟩)
theorem vU(ha:Ev ta σ H (.bl b))(hb:b=true→Ev tb σ H (.bl c)):Ev (acA ta tb) σ H (.bl (b&&c)):=fun H1 s Q k =>
 ha H1 s _ fun x' H2 s2 e=>by
  refine⟨b,e,?_⟩
  cases b with
  |false=>exact Ie (k _ H2 s2 (by simp))
  |true=>exact Ig (hb rfl H2 (s.trans s2) _ fun z H3 s3 e=>k _ H3 (s2.trans s3) (by simpa using e))
theorem ach(ha:Ev ta σ H (.bl b))(hb:b=false→Ev tb σ H (.bl c)):Ev (aeg ta tb) σ H (.bl (b||c)):=fun H1 s Q k =>
 ha H1 s _ fun x' H2 s2 e=>by
  refine⟨b,e,?_⟩
  cases b with
  |true=>exact Ig (k _ H2 s2 (by simp))
  |false=>exact Ie (hb rfl H2 (s.trans s2) _ fun z H3 s3 e=>k _ H3 (s2.trans s3) (by simpa using e))
theorem ZC(ha:Ev ta σ H (.bl b)):Ev (acC ta) σ H (.bl (!b)):=fun H1 s Q k=>ha H1 s _ fun x' H2 s2 e=>⟨b,e,k _ H2 s2 rfl⟩
theorem U4(h:EvT tt σ H b)(ha:b=true→EvP ta σ H R)(hb:b=false→EvP tb σ H R):EvP (tIf tt ta tb) σ H R:=fun H1 s Q k =>
 h H1 s _ fun H2 s2=>by
  cases b with
  |true=>exact Ig (ha rfl H2 (s.trans s2) Q fun v H' s'=>k v H' (s2.trans s'))
  |false=>exact Ie (hb rfl H2 (s.trans s2) Q fun v H' s'=>k v H' (s2.trans s'))
theorem aP(ha:Ev ta σ H (.bl b)):EvT (Xh ta) σ H b:=fun H1 s Q k=>ha H1 s _ fun x H2 s2 e=>⟨b,e,k H2 s2⟩
theorem fB(ha:Ev ta σ H (.bl b)):EvT (tB ta) σ H b:=fun H1 s Q k=>ha H1 s _ fun x H2 s2 e=>⟨b,e,k H2 s2⟩
theorem cC(h:EvT tt σ H b):EvT (adE tt) σ H (!b):=fun H1 s Q k=>h H1 s _ fun H2 s2=>k H2 s2
theorem JR(h:EvT tt σ H b)(h2:b=true→EvT tu σ H c):EvT (aee tt tu) σ H (b&&c):=fun H1 s Q k=>h H1 s _ fun H2 s2=>by
 cases b with
 |false=>exact Ie (k H2 s2)
 |true=>exact Ig (h2 rfl H2 (s.trans s2) Q fun H' s'=>k H' (s2.trans s'))
theorem Ht(h:EvT tt σ H b)(h2:b=false→EvT tu σ H c):EvT (tOr tt tu) σ H (b||c):=fun H1 s Q k=>h H1 s _ fun H2 s2=>by
 cases b with
 |true=>exact Ig (k H2 s2)
 |false=>exact Ie (h2 rfl H2 (s.trans s2) Q fun H' s'=>k H' (s2.trans s'))
theorem PX:EvT Y0 σ H true:=fun H1 s Q k=>k H1 (aY.refl _)
theorem aV:Bs eV σ H []:=fun H1 s Q k=>k [] H1 (aY.refl _) rfl
theorem aB(ha:Ev ta σ H x)(hr:Bs u σ H xs):Bs (bw ta u) σ H (x::xs):=fun H1 s Q k =>
 ha H1 s _ fun x' H2 s2 e=>by
  subst e
  exact hr H2 (s.trans s2) _ fun us H3 s3 e=>k _ H3 (s2.trans s3) (by rw[e])
theorem acN(ha:EvP ta σ H R)(m:Q_ R)(hr:Bs u σ H xs):EvA (bw ta u) σ H fun vs H'=>∃v,vs=v::xs∧R v H':=fun H1 s Q k =>
 ha H1 s _ fun x' H2 s2 e=>hr H2 (s.trans s2) _ fun us H3 s3 e3=>k _ H3 (s2.trans s3) ⟨x',by rw[e3],m _ _ _ s3 e⟩
theorem W2:Q_ (IsL xs):=fun v H H' s h=>h.up s
theorem yd(h:Bs u σ H xs)(hl:xs.length≤sizeLine):EvL (aa3 u) σ H xs:=fun H1 s Q k =>
 h H1 s _ fun us H2 s2 e=>by
  subst e
  exact⟨hl,fun p hp=>k _ _ (fun b o q=>by rw[aO (bj (s2 _ _ q) hp)];exact s2 _ _ q) ⟨p,rfl,aX⟩⟩
theorem jl{p:Addr}{o:HO}(hp:H p=none):aY H (upd H p o):=fun b q e=>by rw[aO (bj e hp)];exact e
theorem mL(ha:EvL ta σ H xs)(hb:EvL tb σ H zs)(hl:xs.length+zs.length≤sizeLine):EvL (tOp abZ ta tb) σ H (xs++zs):=fun H1 s Q k =>
 ha H1 s _ fun x' H2 s2 ⟨l,e,q⟩=>hb H2 (s.trans s2) _ fun y' H3 s3 ⟨b,e3,q3⟩ =>
  ⟨l,b,xs,zs,e,e3,s3 _ _ q,q3,hl,fun p hp=>k _ _ ((s2.trans s3).trans (jl hp)) ⟨p,rfl,aX⟩⟩
theorem zy(ha:EvL ta σ H xs):Ev (tCB (fun xs H Q=>∃p ys,xs=[.ref p]∧(SqL K H p ys∨SqT K H p ys)∧Q (.int ys.length) H) (bw ta eV)) σ H (.int xs.length):=fun H1 s Q k =>
 ha H1 s _ fun x' H2 s2 ⟨l,e,q⟩=>⟨l,xs,by rw[e],.inl (SqL.of q),k _ H2 s2 rfl⟩
theorem Ww{kvs:List (Key×V)}(ha:Ev ta σ H (.ref a))(e:H a=some (.dK kvs)):Ev (tCB (fun xs H Q=>∃a kvs,xs=[V.ref a]∧H a=some (.dK kvs)∧Q (.int kvs.length) H) (bw ta eV)) σ H (.int kvs.length):=fun H1 s Q k =>
 ha H1 s _ fun x' H2 s2 q=>⟨a,kvs,by rw[q],s2 _ _ (s _ _ e),k _ H2 s2 rfl⟩
theorem acP{bs:List Bool}(ha:EvL ta σ H (bs.map V.bl)):Ev (tCB (ad5 K) (bw ta eV)) σ H (.bl (bs.any id)):=fun H1 s Q k =>
 ha H1 s _ fun x' H2 s2 ⟨l,e,q⟩=>⟨l,bs,by rw[e],SqL.of q,k _ H2 s2 rfl⟩
theorem Iv(ha:Ev ta σ H (.bl b)):Ev (tCB (fun xs H Q=>(∃i,xs=[.int i]∧Q (.int i) H)∨∃k,xs=[.bl k]∧Q (.int (if k then 1 else 0)) H) (bw ta eV)) σ H (.int (if b then 1 else 0)):=fun H1 s Q k =>
 ha H1 s _ fun x' H2 s2 e=>.inr ⟨b,by rw[e],k _ H2 s2 rfl⟩
theorem abv{i j:Int}(ha:Ev ta σ H (.int i))(hb:Ev tb σ H (.int j)):Ev (tCB (fun xs H Q=>∃i j,xs=[.int i,.int j]∧Q (.int (if j<i then j else i)) H) (bw ta (bw tb eV))) σ H (.int (if j<i then j else i)):=fun H1 s Q k =>
 ha H1 s _ fun x' H2 s2 e=>hb H2 (s.trans s2) _ fun y' H3 s3 e3=>⟨i,j,by rw[e,e3],k _ H3 (s2.trans s3) rfl⟩
theorem qJ{i:Int}(ha:EvL ta σ H xs)(hb:Ev tb σ H (.int i))(e:atI xs i=some v):Ev (tOp (rIx K) ta tb) σ H v:=fun H1 s Q k =>
 ha H1 s _ fun x' H2 s2 ⟨l,el,q⟩=>hb H2 (s.trans s2) _ fun y' H3 s3 e3=>.inl ⟨l,xs,i,v,el,e3,SqL.of (s3 _ _ q),e,k _ H3 (s2.trans s3) rfl⟩
theorem Qc{i:Int}(ha:Ev ta σ H (.ref a))(q:SqT K H a xs)(hb:Ev tb σ H (.int i))(e:atI xs i=some v):Ev (tOp (rIx K) ta tb) σ H v:=fun H1 s Q k =>
 ha H1 s _ fun x' H2 s2 el=>hb H2 (s.trans s2) _ fun y' H3 s3 e3=>.inr (.inl ⟨a,xs,i,v,el,e3,(by
  rcases q with (q|⟨o,q⟩)|q
  ·exact .inl (.inl ((s.trans (s2.trans s3)) _ _ q))
  ·exact .inl (.inr ⟨o,(s.trans (s2.trans s3)) _ _ q⟩)
  ·exact .inr q),e,k _ H3 (s2.trans s3) rfl⟩)
theorem adQ(ha:Ev ta σ H x)(hb:EvL tb σ H xs)(f1:t_ x=true)(f2:xs.all t_=true):Ev (tOp (rIn K false) ta tb) σ H (.bl (inV x xs)):=fun H1 s Q k =>
 ha H1 s _ fun x' H2 s2 e=>hb H2 (s.trans s2) _ fun y' H3 s3 ⟨l,el,q⟩=>by
  subst e
  exact⟨l,xs,el,.inl (SqL.of q),f1,f2,k _ H3 (s2.trans s3) rfl⟩
theorem fK{kvs:List (Key×V)}{n:Int}(ha:Ev ta σ H (.ref a))(hb:Ev tb σ H (.int n))(e:H a=some (.dK kvs))(q:kE kvs (Sum.inl n)=some v):Ev (aaZ ta tb) σ H v:=fun H1 s Q k =>
 ha H1 s _ fun x' H2 s2 e2=>hb H2 (s.trans s2) _ fun y' H3 s3 e3=>⟨a,v,e2,(by
  subst e3
  have:=O2.k (k:=Sum.inl n) ((s.trans (s2.trans s3)) _ _ e)
  rw[q]at this
  exact this),k _ H3 (s2.trans s3) rfl⟩
theorem Nu{kvs:List (Key×V)}{n:Int}(hb:Ev tb σ H (.int n))(ha:Ev ta σ H (.ref a))(e:H a=some (.dK kvs)):Ev (Xg tb ta) σ H (.bl (!(kE kvs (Sum.inl n)).isSome)):=fun H1 s Q k =>
 hb H1 s _ fun x' H2 s2 e2=>ha H2 (s.trans s2) _ fun y' H3 s3 e3=>⟨a,kE kvs (Sum.inl n),e3,(by
  subst e2
  exact O2.k (k:=Sum.inl n) ((s.trans (s2.trans s3)) _ _ e)),k _ H3 (s2.trans s3) rfl⟩
end
def ro(G:List V→Hp→(V→Hp→Prop)→Prop):Sp:=fun vs H Q _=>∃R,G vs H R∧∀v H',aY H H'→R v H'→Q v H'
section
variable {G:List V→Hp→(V→Hp→Prop)→Prop}{u:TA}{σ:St}{H:Hp}{R:V→Hp→Prop}{vs:List V}
theorem nQ(ha:Bs u σ H vs)(hg:∀H1,aY H H1→G vs H1 R):EvP (fH (ro G) [] E0 u) σ H R:=fun H1 s Q k =>
 ha H1 s _ fun us H2 s2 e=>by
  subst e
  show ro G (us++[]) H2 Q E0
  rw[List.append_nil]
  exact⟨R,hg H2 (s.trans s2),fun v H' s' r=>k v H' (s2.trans s') r⟩
theorem U3(ha:Bs u σ H vs)(hg:∀H1,aY H H1→∃R',G vs H1 R'∧∀v H',R' v H'→R v H'):EvP (fH (ro G) [] E0 u) σ H R:=fun H1 s Q k =>
 ha H1 s _ fun us H2 s2 e=>by
  subst e
  show ro G (us++[]) H2 Q E0
  rw[List.append_nil]
  obtain⟨R',h1,h2⟩:=hg H2 (s.trans s2)
  exact⟨R',h1,fun v H' s' r=>k v H' (s2.trans s') (h2 v H' r)⟩
theorem P0{RA:List V→Hp→Prop}(ha:EvA u σ H RA)(hg:∀vs H1,aY H H1→RA vs H1→G vs H1 R):EvP (fH (ro G) [] E0 u) σ H R:=fun H1 s Q k =>
 ha H1 s _ fun us H2 s2 e=>by
  show ro G (us++[]) H2 Q E0
  rw[List.append_nil]
  exact⟨R,hg us H2 (s.trans s2) e,fun v H' s' r=>k v H' (s2.trans s') r⟩
end
def EvS(t:TS)(σ:St)(H:Hp)(R:V→Hp→Prop):Prop:=∀H1,aY H H1→∀D:Ends,(∀v H',aY H1 H'→R v H'→D.rt v H')→t D σ H1
section
variable {t ta:TE}{tt:TT}{ts tu tr:TS}{σ:St}{H H':Hp}{R R1:V→Hp→Prop}{b:Bool}
theorem EvS.up(h:EvS ts σ H R)(s:aY H H'):EvS ts σ H' R:=fun H1 s1=>h H1 (s.trans s1)
theorem aU(h:EvP t σ H R):EvS (Lq t) σ H R:=fun H1 s D k=>h H1 s D.rt k
theorem d7(h:EvT tt σ H b)(h1:b=true→EvS ts σ H R)(h2:b=false→EvS tr σ H R):EvS (nH (YZ tt ts Tw) tr) σ H R:=fun H1 s D k =>
 h H1 s _ fun H2 s2=>by
  cases b with
  |true=>exact Ig (h1 rfl H2 (s.trans s2) {D with nx:=tr D} fun v H' s'=>k v H' (s2.trans s'))
  |false=>exact Ie (h2 rfl H2 (s.trans s2) D fun v H' s'=>k v H' (s2.trans s'))
theorem CK{i:Nat}(h:EvP t σ H R1)(h2:∀v H1,aY H H1→R1 v H1→EvS tr (σ.set i (some v)) H1 R):EvS (nH (Wd t (uK i)) tr) σ H R:=fun H1 s D k =>
 h H1 s _ fun v H2 s2 q=>h2 v H2 (s.trans s2) q H2 (aY.refl _) D fun v H' s'=>k v H' (s2.trans s')
end
section
variable {P:Program}{w:World}{K:PySem.W.Frag}{mg:Str→Option Value}{base:Heap}
theorem cO{x qual:Str}{st:Stmt}{f:Addr}{fd:FuncData}{N ps:List Str}{k:Nat}{G:List V→Hp→(V→Hp→Prop)→Prop}(F:Fun K x qual st f fd)(S:aG N ps (aA st))(len:∀vs H R,G vs H R→vs.length=ps.length)
  (hbody:∀(cdv:Value) (A:Around) (outer:List Env) (s:Shared) (H0:Hp) (E:XK),jx k (A.deeper (envOfC qual (aA st) s.heap.objs.size f cdv)) →
   ∃t,PSs (Mr CX0 P w K mg base N qual (aA st) f cdv A outer s H0 E).nox (iu st) t∧∀vs R,G vs H0 R→EvS t (start N vs) H0 R):bD P w K mg base CX0 (k+1) f fd ps (ro G) :=
 F.ok S (fun vs H Q E ⟨R,h,_⟩=>len vs H R h) fun cdv A outer s H vs Q E hr ⟨R,hg,kk⟩=>by
  obtain⟨t,h1,h2⟩:=hbody cdv A outer s H E hr
  exact⟨t,h1,h2 vs R hg H (aY.refl _) _ kk⟩
end
section
variable {K:PySem.W.Frag}{tl te:TE}{tt:TT}{σ:St}{H:Hp}{xs:List V}{k:Nat}
theorem Fv(σ:St)(k:Nat)(x:V):wipe ((wipe σ [k]).set k (some x)) [k]=wipe σ [k]:=by
 show((σ.set k none).set k (some x)).set k none=σ.set k none
 rw[List.set_set,List.set_set]
theorem rO{α:Type}:∀{l:List α} {i:Nat} {x:α},l[i]?=some x→l.take (i+1)=l.take i++[x]:=fun{l i x} h=>by rw[List.take_add_one,h];rfl
def IsN(H:Hp)(xs:List V)(v:V)(H':Hp):Prop:=∃l,v=.ref l∧H l=none∧H' l=some (.lst xs)
theorem IsN.l{H:Hp}{xs:List V}{v:V}{H':Hp}(h:IsN H xs v H'):IsL xs v H':=let ⟨l,e,_,q⟩:=h;⟨l,e,q⟩
theorem ZG{α:Type}{ys:List α}(it:α→V)(p:α→Bool)(f:α→V)(hl:EvL tl σ H (ys.map it))(hz:ys.length≤sizeLine)
  (ht:∀y∈ys,EvT tt ((wipe σ [k]).set k (some (it y))) H (p y)) (he:∀y∈ys,p y=true→Ev te ((wipe σ [k]).set k (some (it y))) H (f y)):EvP (tLc (Nz K tl) (uK k) tt te [k]) σ H (IsN H ((ys.filter p).map f)):=by
 intro H1 s Q q
 refine hl H1 s _ fun v H2 s2 ⟨l,e,hl2⟩=>⟨l,e,⟨_,SqL.of hl2⟩,fun D hD=>?_⟩
 refine abK (K:=K) (a:=l) (xs:=ys.map it) (Qd:=fun H'=>Q (.ref D) H') (fun i H'=>aY H2 H'∧H' D=some (.lst (((ys.take i).filter p).map f))) ⟨jl hD,aX⟩ (fun i H' _ h=>SqL.of (h.1 _ _ hl2)) ?_ ?_
 ·rintro i x H' hx ⟨s3,hd3⟩
  obtain⟨y,hy,rfl⟩:∃y,ys[i]?=some y∧it y=x:=by
   rw[List.getElem?_map]at hx
   cases e:ys[i]? with
   |none=>rw[e]at hx;cases hx
   |some y=>rw[e]at hx;exact⟨y,rfl,Option.some.inj hx⟩
  have mx:y∈ys:=List.mem_of_getElem? hy
  refine⟨Fv σ k (it y),?_⟩
  refine ht y mx H' (s.trans (s2.trans s3)) _ fun H4 s4=>?_
  rw[rO hy,List.filter_append,List.map_append]
  cases hp:p y with
  |false =>
   refine Ie ⟨s3.trans s4,?_⟩
   rw[List.filter_cons_of_neg (by rw[hp];exact Bool.false_ne_true),List.filter_nil,List.map_nil,List.append_nil]
   exact s4 _ _ hd3
  |true =>
   refine Ig (he y mx hp H4 (s.trans (s2.trans (s3.trans s4))) _ fun z H5 s5 e5=>?_)
   subst e5
   refine⟨_,s5 _ _ (s4 _ _ hd3),?_,?_,?_⟩
   ·have h1:i<ys.length:=(List.getElem?_eq_some_iff.mp hy).1
    have h2:=List.length_filter_le p (ys.take i)
    rw[List.length_take]at h2
    rw[List.length_map]
    omega
   ·intro b o eb
    rw[aO (bj eb hD)]
    exact s5 _ _ (s4 _ _ (s3 _ _ eb))
   ·rw[aX,List.filter_cons_of_pos hp,List.filter_nil]
    rfl
 ·rintro H' ⟨s3,hd3⟩
  rw[List.length_map,List.take_length]at hd3
  exact q _ _ (s2.trans s3) ⟨D,rfl,(s.trans s2).free hD,hd3⟩
theorem jY{α:Type}{ys:List α}(it:α→V)(p:α→Bool)(f:α→V)(hl:EvL tl σ H (ys.map it))(hz:ys.length≤sizeLine)
  (ht:∀y∈ys,EvT tt ((wipe σ [k]).set k (some (it y))) H (p y)) (he:∀y∈ys,p y=true→Ev te ((wipe σ [k]).set k (some (it y))) H (f y)):EvL (tLc (Nz K tl) (uK k) tt te [k]) σ H ((ys.filter p).map f) :=
 (ZG it p f hl hz ht he).imp fun _ _ _ h=>h.l
end
section
variable {K:PySem.W.Frag}{tl:TE}{tt:TT}{ts tr:TS}{σ:St}{H:Hp}{k:Nat}{R:V→Hp→Prop}
theorem aaR{σ:St}{k:Nat}(h:k<σ.length):∃o,σ=σ.set k o:=⟨σ[k],(List.set_getElem_self h).symm⟩
theorem Wv{α:Type}{ys:List α}(it:α→V)(p:α→Bool)(hk:k<σ.length)(hl:EvL tl σ H (ys.map it))(ht:∀y∈ys,EvT tt (σ.set k (some (it y))) H (p y))
  (hb:∀y∈ys,p y=true→EvS ts (σ.set k (some (it y))) H R) (hg:(∀y∈ys,p y=false)→∀o,EvS tr (σ.set k o) H R) :
  EvS (nH (aa2 (Nz K tl) (uK k) (YZ tt ts Tw)) tr) σ H R:=by
 intro H1 s D q
 refine hl H1 s _ fun v H2 s2 ⟨l,e,hl2⟩=>⟨l,e,⟨_,SqL.of hl2⟩,?_⟩
 refine JX (K:=K) (a:=l) (xs:=ys.map it) (fun i σ' H'=>aY H2 H'∧(∀y∈ys.take i,p y=false)∧∃o,σ'=σ.set k o) ⟨aY.refl _,by simp,aaR hk⟩ (fun i σ' H' _ h=>SqL.of (h.1 _ _ hl2)) ?_ ?_
 ·rintro i x σ' H' hx ⟨s3,h3,o,rfl⟩
  obtain⟨y,hy,rfl⟩:∃y,ys[i]?=some y∧it y=x:=by
   rw[List.getElem?_map]at hx
   cases e:ys[i]? with
   |none=>rw[e]at hx;cases hx
   |some y=>rw[e]at hx;exact⟨y,rfl,Option.some.inj hx⟩
  have mx:y∈ys:=List.mem_of_getElem? hy
  show YZ tt ts Tw _ ((σ.set k o).set k (some (it y))) H'
  rw[List.set_set]
  refine ht y mx H' (s.trans (s2.trans s3)) _ fun H4 s4=>?_
  cases hp:p y with
  |true=>exact Ig (hb y mx hp H4 (s.trans (s2.trans (s3.trans s4))) _ fun v H' s' r=>q v H' (s2.trans (s3.trans (s4.trans s'))) r)
  |false =>
   refine Ie ⟨s3.trans s4,fun z hz=>?_,_,rfl⟩
   rw[rO hy]at hz
   rcases List.mem_append.mp hz with hz|hz
   ·exact h3 z hz
   ·rw[List.mem_singleton.mp hz];exact hp
 ·rintro σ' H' ⟨s3,h3,o,rfl⟩
  rw[List.length_map,List.take_length]at h3
  exact hg h3 o H' (s.trans (s2.trans s3)) D fun v H4 s4 r=>q v H4 (s2.trans (s3.trans s4)) r
def Bu(H:Hp)(ps:List (Addr×Int×Int×Int))(v:V):Prop:=∃l,v=.ref l∧H l=some (.lst (ps.map fun p=>V.ref p.1))∧∀p∈ps,H p.1=some (.tup [.int p.2.1,.int p.2.2.1,.int p.2.2.2])
theorem vY{ps:List (Addr×Int×Int×Int)}:Q_ fun v H=>Bu H ps v:=fun v H H' s ⟨l,e,h1,h2⟩=>⟨l,e,s _ _ h1,fun p hp=>s _ _ (h2 p hp)⟩
end
end L2
end
section
set_option Elab.async false
set_option linter.all false
set_option maxRecDepth 100000
namespace Jq
open PySem PySem.Spec PyProof.Rows L2
abbrev St:=L2.St
theorem fX:bootBuiltins "len" = some (.builtin "len"):=by decide +kernel
theorem wR:bootBuiltins "sorted" = some (.builtin "sorted"):=by decide +kernel
theorem Ue:bootBuiltins "min" = some (.builtin "min"):=by decide +kernel
theorem acJ:bootBuiltins "any" = some (.builtin "any"):=by decide +kernel
theorem acK:bootBuiltins "set" = some (.type "set"):=by decide +kernel
theorem O8:bootBuiltins "int" = some (.type "int"):=by decide +kernel
theorem Ip:bootBuiltins "list" = some (.type "list"):=by decide +kernel
section
variable {X:Cx}{x qual:Str}{st:Stmt}{ps:List Str}{k:Nat}{sp:Sp}{p pos apos:Pos}{e o:Expr}{es:List Expr}{t:TA}{ta:TE}{C f:Addr}{fd:FuncData}
theorem aK(D:bW X.K X.mg x qual st ps)(F:bD X.prog X.w X.K X.mg X.base CX0 k D.f D.fd ps sp)(hr:jx k X.A)(hg:Gl X x)(ha:PA X (e::es) t)(hdb:(x==("__debug__" : Str))=false:=by decide)
  (he:starEach (e::es) X.env=(false,eval e X.env)::starEach es X.env:=by rfl) (hpl:(backTo pos (starEach es X.env)).any (·.1)=false:=by rfl):PE X (.Call (.Name x p) (e::es) [] pos) (fH sp [] E0 t) :=
 abU F hr hg D.g D.F.kp D.b .nil SJ ha hdb he hpl
theorem acv(ho:PE X o ta)(c:Cls X.K C)(D:Jd X.K C x qual st ps)(F:bD X.prog X.w X.K X.mg X.base CX0 k D.f D.fd ps sp)(hr:jx k X.A)(ha:PA X (e::es) t)
  {pl:Sem Bool} (hst:starEach (e::es) X.env=(false,eval e X.env)::starEach es X.env:=by rfl) (hpl:(backTo pos (starEach es X.env)).any (·.1)=false:=by rfl)
  (ht:eval (.Call (.Attribute o x apos) (e::es) [] pos) X.env=(do
   let ov ← eval o X.env
   standAt apos.atName
   let (f,first) ← holding [ov] (getMethod ov x pl)
   callWith pos f first (backTo pos (starEach (e::es) X.env)) (backToKw pos (keywordEach [] X.env))):=by rfl):PE X (.Call (.Attribute o x apos) (e::es) [] pos) (Om C x sp [] E0 ta t) :=
 abX (pl:=pl) ho c D.m F hr D.b .nil SJ ha hst hpl ht
theorem Ky(ho:PE X o ta)(c:Cls X.K C)(D:Jd X.K C x qual st ps)(F:bD X.prog X.w X.K X.mg X.base CX0 k D.f D.fd ps sp)(hr:jx k X.A)
  {pl:Sem Bool} (ht:eval (.Call (.Attribute o x apos) [] [] pos) X.env=(do
   let ov ← eval o X.env
   standAt apos.atName
   let (f,first) ← holding [ov] (getMethod ov x pl)
   callWith pos f first (backTo pos (starEach [] X.env)) (backToKw pos (keywordEach [] X.env))):=by rfl):PE X (.Call (.Attribute o x apos) [] [] pos) (Om C x sp [] E0 ta eV) :=
 aaA (pl:=pl) ho c D.m F hr D.b .nil SJ ht
theorem adt(D:T9 X.K X.mg C x f){fd:FuncData}(F:bD X.prog X.w X.K X.mg X.base CX0 k f fd ps sp)(b:Binds X.K fd ps [])(hr:jx (k+1) X.A)(hg:Gl X x)(hdb:(x==("__debug__" : Str))=false:=by decide) :
  PE X (.Call (.Name x p) [] [] pos) (Ol C sp [] E0 eV):=aaz D.M F hr hg D.g b .nil SJ hdb
theorem bz{n:Int}(h:∃t,X.mg x=some (.int n t))(hg:Gl X x)(hd:(x==("__debug__" : Str))=false:=by decide):PE X (.Name x pos) (tC (.int n)) :=
 let ⟨t,e⟩:=h;W6 hg e ⟨t,rfl⟩ hd
end
section
variable {X:Cx}{K:PySem.W.Frag}{e:Expr}{ta:TE}{f:Str}{pos:Pos}
theorem aD(he:PE X e ta)(hb:attributeBase e f X.env (eval e X.env)=eval e X.env)(hK:X.K=K:=by rfl):PE X (.Attribute e f pos) (km K ta f):=hK▸ado he hb
theorem bA(hK:X.K=K:=by rfl):IxR X (rIx K):=hK▸ac1
theorem Vw(hK:X.K=K:=by rfl):OpR X (compareOp .In) (rIn K false):=hK▸Yy
end
theorem YD:aG ["n"] ["n"] (aA G8):=⟨rfl,rfl,rfl,by decide +kernel,rfl,by decide +kernel,by decide +kernel⟩
theorem ab3:aG ["n"] ["n"] (aA QZ):=⟨rfl,rfl,rfl,by decide +kernel,rfl,by decide +kernel,by decide +kernel⟩
theorem ab2:aG ["n"] ["n"] (aA QX):=⟨rfl,rfl,rfl,by decide +kernel,rfl,by decide +kernel,by decide +kernel⟩
theorem GR:aG ["n"] ["n"] (aA rM):=⟨rfl,rfl,rfl,by decide +kernel,rfl,by decide +kernel,by decide +kernel⟩
theorem Tf:aG ["n"] ["n"] (aA Ah):=⟨rfl,rfl,rfl,by decide +kernel,rfl,by decide +kernel,by decide +kernel⟩
theorem K7:aG ["n"] ["n"] (aA vp):=⟨rfl,rfl,rfl,by decide +kernel,rfl,by decide +kernel,by decide +kernel⟩
theorem Im:aG ["n"] ["n"] (aA tY):=⟨rfl,rfl,rfl,by decide +kernel,rfl,by decide +kernel,by decide +kernel⟩
theorem V2:aG ["n"] ["n"] (aA Dz):=⟨rfl,rfl,rfl,by decide +kernel,rfl,by decide +kernel,by decide +kernel⟩
theorem Tj:aG ["n"] ["n"] (aA Al):=⟨rfl,rfl,rfl,by decide +kernel,rfl,by decide +kernel,by decide +kernel⟩
theorem Th:aG ["n"] ["n"] (aA Aj):=⟨rfl,rfl,rfl,by decide +kernel,rfl,by decide +kernel,by decide +kernel⟩
theorem Il:aG ["n"] ["n"] (aA tX):=⟨rfl,rfl,rfl,by decide +kernel,rfl,by decide +kernel,by decide +kernel⟩
theorem QR:aG ["byte"] ["byte"] (aA yC):=⟨rfl,rfl,rfl,by decide +kernel,rfl,by decide +kernel,by decide +kernel⟩
theorem Tg:aG ["byte"] ["byte"] (aA Ai):=⟨rfl,rfl,rfl,by decide +kernel,rfl,by decide +kernel,by decide +kernel⟩
theorem K6:aG ["row","byte"] ["row"] (aA DK):=⟨rfl,rfl,rfl,by decide +kernel,rfl,by decide +kernel,by decide +kernel⟩
theorem xM:aG ["row","class_of"] ["row"] (aA rK):=⟨rfl,rfl,rfl,by decide +kernel,rfl,by decide +kernel,by decide +kernel⟩
theorem Dt:aG ["row"] ["row"] (aA ph):=⟨rfl,rfl,rfl,by decide +kernel,rfl,by decide +kernel,by decide +kernel⟩
theorem vf:aG ["row","place"] ["row"] (aA qF):=⟨rfl,rfl,rfl,by decide +kernel,rfl,by decide +kernel,by decide +kernel⟩
theorem V4:aG ["job","kind","n"] ["job","kind","n"] (aA DN):=⟨rfl,rfl,rfl,by decide +kernel,rfl,by decide +kernel,by decide +kernel⟩
theorem V1:aG ["row"] ["row"] (aA Dw):=⟨rfl,rfl,rfl,by decide +kernel,rfl,by decide +kernel,by decide +kernel⟩
theorem QQ:aG ["job"] ["job"] (aA yz):=⟨rfl,rfl,rfl,by decide +kernel,rfl,by decide +kernel,by decide +kernel⟩
theorem Ti:aG ["job"] ["job"] (aA Ak):=⟨rfl,rfl,rfl,by decide +kernel,rfl,by decide +kernel,by decide +kernel⟩
theorem YF:aG ["job"] ["job"] (aA G9):=⟨rfl,rfl,rfl,by decide +kernel,rfl,by decide +kernel,by decide +kernel⟩
theorem V5:aG ["job","a"] ["job","a"] (aA DP):=⟨rfl,rfl,rfl,by decide +kernel,rfl,by decide +kernel,by decide +kernel⟩
theorem YG:aG ["kind","n","state","code"] ["kind","n","state","code"] (aA G_):=⟨rfl,rfl,rfl,by decide +kernel,rfl,by decide +kernel,by decide +kernel⟩
theorem Aa:aG ["board","number"] ["board"] (aA vN):=⟨rfl,rfl,rfl,by decide +kernel,rfl,by decide +kernel,by decide +kernel⟩
theorem tV:aG ["board","job"] ["board"] (aA oA):=⟨rfl,rfl,rfl,by decide +kernel,rfl,by decide +kernel,by decide +kernel⟩
theorem lQ:aG ["jobs","class_of","job"] ["jobs","class_of"] (aA iD):=⟨rfl,rfl,rfl,by decide +kernel,rfl,by decide +kernel,by decide +kernel⟩
theorem Fj:aG ["board","number"] ["board","number"] (aA qD):=⟨rfl,rfl,rfl,by decide +kernel,rfl,by decide +kernel,by decide +kernel⟩
theorem K8:aG ["board","class_of","n"] ["board","class_of","n"] (aA vq):=⟨rfl,rfl,rfl,by decide +kernel,rfl,by decide +kernel,by decide +kernel⟩
theorem M7:aG ["board","class_of","closed"] ["board","class_of","closed"] (aA wK):=⟨rfl,rfl,rfl,by decide +kernel,rfl,by decide +kernel,by decide +kernel⟩
theorem K4:aG ["board","class_of"] ["board","class_of"] (aA vo):=⟨rfl,rfl,rfl,by decide +kernel,rfl,by decide +kernel,by decide +kernel⟩
theorem M6:aG ["board","class_of"] ["board","class_of"] (aA wJ):=⟨rfl,rfl,rfl,by decide +kernel,rfl,by decide +kernel,by decide +kernel⟩
theorem gR:aG ["jobs","tests","number","kind","n","named"] ["jobs","tests"] (aA o_):=⟨rfl,rfl,rfl,by decide +kernel,rfl,by decide +kernel,by decide +kernel⟩
theorem nu:aG ["jobs","tests","test"] ["jobs","tests"] (aA iU):=⟨rfl,rfl,rfl,by decide +kernel,rfl,by decide +kernel,by decide +kernel⟩
theorem M5:aG ["job","state","code"] ["job","state","code"] (aA wI):=⟨rfl,rfl,rfl,by decide +kernel,rfl,by decide +kernel,by decide +kernel⟩
theorem yq:aG ["jobs","job","state","code","flushed","number","other"] ["jobs","job","state","code"] (aA Dy):=⟨rfl,rfl,rfl,by decide +kernel,rfl,by decide +kernel,by decide +kernel⟩
theorem Ac:aG ["board","class_of","running"] ["board","class_of","running"] (aA lW):=⟨rfl,rfl,rfl,by decide +kernel,rfl,by decide +kernel,by decide +kernel⟩
theorem dC:aG ["board","initiator","running","classes","names","ready","class_of","job"] ["board","initiator"] (aA jL):=⟨rfl,rfl,rfl,by decide +kernel,rfl,by decide +kernel,by decide +kernel⟩
theorem jX:aG ["board","initiator","free","due","classes","job"] ["board","initiator","free"] (aA iR):=⟨rfl,rfl,rfl,by decide +kernel,rfl,by decide +kernel,by decide +kernel⟩
theorem Fi:aG ["board","jobs","job"] ["board","jobs"] (aA yD):=⟨rfl,rfl,rfl,by decide +kernel,rfl,by decide +kernel,by decide +kernel⟩
theorem Du:aG ["number","classes"] ["number","classes"] (aA pq):=⟨rfl,rfl,rfl,by decide +kernel,rfl,by decide +kernel,by decide +kernel⟩
theorem Ae:aG ["board","number"] ["board","number"] (aA lY):=⟨rfl,rfl,rfl,by decide +kernel,rfl,by decide +kernel,by decide +kernel⟩
theorem qm:aG ["board","number","refusal"] ["board","number"] (aA jO):=⟨rfl,rfl,rfl,by decide +kernel,rfl,by decide +kernel,by decide +kernel⟩
theorem yu:aG ["board","number"] ["board","number"] (aA jN):=⟨rfl,rfl,rfl,by decide +kernel,rfl,by decide +kernel,by decide +kernel⟩
theorem K_:aG ["board","number","classes","refusal","initiator"] ["board","number","classes"] (aA Ln):=⟨rfl,rfl,rfl,by decide +kernel,rfl,by decide +kernel,by decide +kernel⟩
theorem K9:aG ["board","number","classes","refusal","initiator"] ["board","number","classes"] (aA Lk):=⟨rfl,rfl,rfl,by decide +kernel,rfl,by decide +kernel,by decide +kernel⟩
theorem M8:aG ["initiator"] ["initiator"] (aA wL):=⟨rfl,rfl,rfl,by decide +kernel,rfl,by decide +kernel,by decide +kernel⟩
theorem GX:aG ["initiator"] ["initiator"] (aA rN):=⟨rfl,rfl,rfl,by decide +kernel,rfl,by decide +kernel,by decide +kernel⟩
theorem K5:aG ["board","number","refusal","initiator"] ["board","number"] (aA Li):=⟨rfl,rfl,rfl,by decide +kernel,rfl,by decide +kernel,by decide +kernel⟩
theorem V6:aG ["initiator","job"] ["initiator","job"] (aA DR):=⟨rfl,rfl,rfl,by decide +kernel,rfl,by decide +kernel,by decide +kernel⟩
theorem yt:aG ["board","number","refusal","initiator","free","job","other"] ["board","number"] (aA Jc):=⟨rfl,rfl,rfl,by decide +kernel,rfl,by decide +kernel,by decide +kernel⟩
theorem Jb:aG ["board","number","refusal","initiator","job"] ["board","number"] (aA Q0):=⟨rfl,rfl,rfl,by decide +kernel,rfl,by decide +kernel,by decide +kernel⟩
theorem xK:aG ["board","number","abend","code","refusal","initiator","state","flushed"] ["board","number","abend","code"] (aA G6):=⟨rfl,rfl,rfl,by decide +kernel,rfl,by decide +kernel,by decide +kernel⟩
theorem yw:aG ["board","number","refusal","initiator","job"] ["board","number"] (aA DQ):=⟨rfl,rfl,rfl,by decide +kernel,rfl,by decide +kernel,by decide +kernel⟩
theorem mY:aG ["board","number","refusal"] ["board","number"] (aA g8):=⟨rfl,rfl,rfl,by decide +kernel,rfl,by decide +kernel,by decide +kernel⟩
theorem aaO:aG ["board","cap","k","a"] ["board","cap","k","a"] (aA Lh):=⟨rfl,rfl,rfl,by decide +kernel,rfl,by decide +kernel,by decide +kernel⟩
theorem dw:aG ["board","tests","number","kind","n"] ["board","tests"] (aA nG):=⟨rfl,rfl,rfl,by decide +kernel,rfl,by decide +kernel,by decide +kernel⟩
theorem V3:aG ["board"] ["board"] (aA DG):=⟨rfl,rfl,rfl,by decide +kernel,rfl,by decide +kernel,by decide +kernel⟩
theorem sV:aG ["board","class_of","priority","held","name","row","refusal"] ["board","class_of","priority","held","name","row"] (aA lX):=⟨rfl,rfl,rfl,by decide +kernel,rfl,by decide +kernel,by decide +kernel⟩
theorem Bo:aG ["board","class_of","priority","held","name","row","refusal","tests","number"] ["board","class_of","priority","held","name","row"] (aA Hd):=⟨rfl,rfl,rfl,by decide +kernel,rfl,by decide +kernel,by decide +kernel⟩
theorem Af:aG ["board","number","held","refusal","job"] ["board","number","held"] (aA Am):=⟨rfl,rfl,rfl,by decide +kernel,rfl,by decide +kernel,by decide +kernel⟩
theorem ab1:aG ["board","number"] ["board","number"] (aA QW):=⟨rfl,rfl,rfl,by decide +kernel,rfl,by decide +kernel,by decide +kernel⟩
theorem aaP:aG ["board","number"] ["board","number"] (aA Lj):=⟨rfl,rfl,rfl,by decide +kernel,rfl,by decide +kernel,by decide +kernel⟩
theorem GQ:aG ["board","number","class_of","priority","refusal","job"] ["board","number","class_of","priority"] (aA G5):=⟨rfl,rfl,rfl,by decide +kernel,rfl,by decide +kernel,by decide +kernel⟩
theorem GP:aG ["board","number","refusal","flushed"] ["board","number"] (aA G4):=⟨rfl,rfl,rfl,by decide +kernel,rfl,by decide +kernel,by decide +kernel⟩
theorem Od:aG ["board","number","refusal"] ["board","number"] (aA G7):=⟨rfl,rfl,rfl,by decide +kernel,rfl,by decide +kernel,by decide +kernel⟩
theorem QS:aG ["board","n","number","job"] ["board","n"] (aA Q4):=⟨rfl,rfl,rfl,by decide +kernel,rfl,by decide +kernel,by decide +kernel⟩
theorem tW:aG ["board","job"] ["board"] (aA oE):=⟨rfl,rfl,rfl,by decide +kernel,rfl,by decide +kernel,by decide +kernel⟩
theorem wD:aG ["board","job"] ["board"] (aA su):=⟨rfl,rfl,rfl,by decide +kernel,rfl,by decide +kernel,by decide +kernel⟩
theorem cR:aG ["board","class_of","ready","due","others","job"] ["board","class_of"] (aA dN):=⟨rfl,rfl,rfl,by decide +kernel,rfl,by decide +kernel,by decide +kernel⟩
theorem o7:aG ["board","job","other"] ["board","job"] (aA jM):=⟨rfl,rfl,rfl,by decide +kernel,rfl,by decide +kernel,by decide +kernel⟩
theorem qx:aG ["board","number","refusal","job","nine"] ["board","number"] (aA vA):=⟨rfl,rfl,rfl,by decide +kernel,rfl,by decide +kernel,by decide +kernel⟩
theorem nW:aG ["board","number","refusal","tests","row","test"] ["board","number"] (aA wN):=⟨rfl,rfl,rfl,by decide +kernel,rfl,by decide +kernel,by decide +kernel⟩
theorem yr:aG ["tests","number","test"] ["tests","number"] (aA uw):=⟨rfl,rfl,rfl,by decide +kernel,rfl,by decide +kernel,by decide +kernel⟩
theorem rZ:aG ["board","number","refusal","row","job"] ["board","number"] (aA sE):=⟨rfl,rfl,rfl,by decide +kernel,rfl,by decide +kernel,by decide +kernel⟩
theorem ou:aG ["board","row","number","job_number"] ["board"] (aA tZ):=⟨rfl,rfl,rfl,by decide +kernel,rfl,by decide +kernel,by decide +kernel⟩
theorem La:aG ["board"] ["board"] (aA vz):=⟨rfl,rfl,rfl,by decide +kernel,rfl,by decide +kernel,by decide +kernel⟩
theorem vL:aG ["board","number","initiator"] ["board","number"] (aA qG):=⟨rfl,rfl,rfl,by decide +kernel,rfl,by decide +kernel,by decide +kernel⟩
theorem wF:aG ["board","class_of","running","waiting"] ["board","class_of"] (aA wM):=⟨rfl,rfl,rfl,by decide +kernel,rfl,by decide +kernel,by decide +kernel⟩
theorem Fg:aG ["board","call","numbers","rows"] ["board","call","numbers","rows"] (aA qC):=⟨rfl,rfl,rfl,by decide +kernel,rfl,by decide +kernel,by decide +kernel⟩
theorem Ab:aG ["board","call","numbers"] ["board","call","numbers"] (aA lV):=⟨rfl,rfl,rfl,by decide +kernel,rfl,by decide +kernel,by decide +kernel⟩
theorem xJ:aG ["board","call","numbers","rows"] ["board","call","numbers","rows"] (aA jm):=⟨rfl,rfl,rfl,by decide +kernel,rfl,by decide +kernel,by decide +kernel⟩
theorem Dq:aG ["board","call","numbers"] ["board","call","numbers"] (aA o9):=⟨rfl,rfl,rfl,by decide +kernel,rfl,by decide +kernel,by decide +kernel⟩
theorem gQ:aG ["board","reader","call","shape","numbers","rows","turn"] ["board","reader"] (aA lU):=⟨rfl,rfl,rfl,by decide +kernel,rfl,by decide +kernel,by decide +kernel⟩
theorem rY:aG ["board","calls","reader","told","answer"] ["board","calls"] (aA wH):=⟨rfl,rfl,rfl,by decide +kernel,rfl,by decide +kernel,by decide +kernel⟩
theorem V0:aG ["calls"] ["calls"] (aA Dv):=⟨rfl,rfl,rfl,by decide +kernel,rfl,by decide +kernel,by decide +kernel⟩
theorem Te:aG ["self","number","name","class_of","priority","held","tests"] ["self","number","name","class_of","priority","held","tests"] (aA Ag):=⟨rfl,rfl,rfl,by decide +kernel,rfl,by decide +kernel,by decide +kernel⟩
theorem Ff:aG ["self"] ["self"] (aA qz):=⟨rfl,rfl,rfl,by decide +kernel,rfl,by decide +kernel,by decide +kernel⟩
theorem M4:aG ["self","cap","k","a"] ["self","cap","k","a"] (aA wG):=⟨rfl,rfl,rfl,by decide +kernel,rfl,by decide +kernel,by decide +kernel⟩
theorem vd:aG ["self","cap","k","a","class_of","number"] ["self","cap","k","a"] (aA vh):=⟨rfl,rfl,rfl,by decide +kernel,rfl,by decide +kernel,by decide +kernel⟩
theorem KZ:aG ["self","calls"] ["self","calls"] (aA vm):=⟨rfl,rfl,rfl,by decide +kernel,rfl,by decide +kernel,by decide +kernel⟩
theorem BL:aG ["self"] ["self"] (aA nA):=⟨rfl,rfl,rfl,by decide +kernel,rfl,by decide +kernel,by decide +kernel⟩
theorem qK:aG ["self","number"] ["self"] (aA kh):=⟨rfl,rfl,rfl,by decide +kernel,rfl,by decide +kernel,by decide +kernel⟩
theorem oZ:aG ["self","how_many","row"] ["self"] (aA o8):=⟨rfl,rfl,rfl,by decide +kernel,rfl,by decide +kernel,by decide +kernel⟩
end Jq
end
section
set_option Elab.async false
set_option linter.all false
set_option maxRecDepth 100000
namespace L2
open PySem PySem.Spec PyProof.Rows
section
variable {X:Cx}
def VN:List V→Hp→VK→Prop:=fun vs H Q=>∃(a:Addr) (kvs:List (Key×V)) (ns:List Int),vs=[V.ref a]∧H a=some (.dK kvs)∧kvs.map (·.1)=ns.map (Sum.inl:Int→Key) ∧
 ∀(ns':List Int) (p:Addr),ns'.Perm ns→ns'.Pairwise (·≤·)→H p=none→Q (.ref p) (upd H p (.lst (ns'.map V.int)))
theorem Ql:∀{vs:List Value} {ns:List Int},vs.length=ns.length→(∀(j:Nat) (v:Value),vs[j]?=some v→∃(n:Int) (t:Tok),ns[j]?=some n∧v=Value.int n t)→IntsAre vs ns
 |[],[],_,_=>.nil
 |[],_::_,h,_=>by simp at h
 |_::_,[],h,_=>by simp at h
 |v::vs,n::ns,h,k=>by
  obtain⟨m,t,e1,e2⟩:=k 0 v rfl
  have e1:n=m:=by simpa using e1
  subst e1 e2
  exact .cons _ _ (Ql (by simpa using h) fun j u e=>by
   obtain⟨m,t,e1,e2⟩:=k (j+1) u (by simpa using e)
   exact⟨m,t,by simpa using e1,e2⟩)
theorem NP{P:Program}{w:World}{kvs:List (Key×V)}{vs:List (Key×Value)}{ns:List Int}{acc:List Value}(rel:KV kvs vs)(hk:kvs.map (·.1)=ns.map (Sum.inl:Int→Key))(hl:acc.length=vs.length)
  (hacc:∀(j:Nat) (v:Value),acc[j]?=some v→∃(k:Key) (x:Value),vs[j]?=some (k,x)∧(e_ P w).is k v=true):IntsAre acc ns:=by
 have hlv:kvs.length=vs.length:=Paired.length rel
 have hln:kvs.length=ns.length:=by have:=congrArg List.length hk;rw[List.length_map,List.length_map]at this;exact this
 refine Ql (by omega) fun j v e=>?_
 obtain⟨k,x,e1,e2⟩:=hacc j v e
 have hj:j<vs.length:=(List.getElem?_eq_some_iff.mp e1).1
 have ek:kvs[j]?=some kvs[j]:=List.getElem?_eq_getElem (by omega)
 obtain⟨b,hb,hr⟩:=VD rel ek
 rw[e1]at hb
 cases hb
 have e3:(kvs.map (·.1))[j]?=some k:=by rw[List.getElem?_map,ek];exact congrArg some hr.1
 rw[hk,List.getElem?_map]at e3
 cases en:ns[j]? with
 |none=>rw[en]at e3;cases e3
 |some n =>
  rw[en]at e3
  have e3:(Sum.inl n:Key)=k:=Option.some.inj e3
  subst e3
  rcases gD (show J8 (Sum.inl n) v=true from e2)with ⟨i,t,a1,a2⟩|⟨y,t,a1,a2⟩
  ·cases a1
   exact⟨n,t,rfl,a2⟩
  ·cases a1
theorem xZ(hc:X.calm=true):yI X (.builtin "sorted") VN:=by
 intro pins s σ H vs us Q I r h
 obtain⟨a,kvs,ns,rfl,ha,hk,q⟩:=h
 rw[Vals.aaL r]
 obtain⟨z,hd,vs,rel,dd⟩:=Rz I.hok ha
 obtain⟨ep,hat⟩:=dd.dictAt
 have hlv:kvs.length=vs.length:=Paired.length rel
 have hln:kvs.length=ns.length:=by have:=congrArg List.length hk;rw[List.length_map,List.length_map]at this;exact this
 refine Calls.call_function_entry kind_sorted plain_sorted entry_sorted (args_sorted1 _) ?_
 unfold Builtin.«sorted»
 refine wpAny_bind (m:=checkCount "sorted" 1 1 _) (wpAny_pure ?_)
 refine wpAny_bind (PySem.W.kdu_collect (A:=X.A.in1) (PySem.W.kdl_dict (knd:=e_ X.prog X.w) (kvs:=vs) (ep:=ep) hd) (I.ok.hd hc) hat (by rw[← hlv];exact z) fun h' tk acc hk' hacc=>?_)
 have hal:acc.toList.length=vs.length:=by rw[Array.length_toList];exact hacc.1
 have hi:IntsAre acc.toList ns:=NP (P:=X.prog) (w:=X.w) rel hk hal fun j v e=>hacc.2 j v (by rw[← Array.getElem?_toList];exact e)
 refine wpAny_bind (wpAny_newList ?_ (by rw[hal,← hlv];exact z))
 have hoL:(h'.push (seqObj "list" acc.toList.toArray 0)).get? h'.objs.size=some (seqObj "list" acc.toList.toArray 0):=Heap.get?_push_size _ rfl
 refine wpAny_bind (wpAny_holding (wpAny_call_entry slot_list_sort ⟨_,hoL,rfl⟩ entry_list_sort (list_sort_treeAny hoL hi (by rw[hal,← hlv];exact z) fun out ns' a1 a2 a3=>⟨_,rfl,?_⟩) (args_list_sort _)))
 refine wpAny_pure ⟨_,rfl,?_⟩
 obtain⟨ep',he'⟩:=sortedHeap_at (vs:=acc.toList) (out:=out) hoL
 have hlen:(ns'.map V.int).length≤sizeLine:=by rw[List.length_map,a2.length_eq,← hln];exact z
 have I2:=I.kept (t':=tk) hk'
 exact⟨.ref _,upd H h'.objs.size (.lst (ns'.map V.int)),I2.laid (t':=tk) (fun b u e=>by
  rw[sortedHeap_old (Nat.ne_of_lt (Heap.lt_size e)) (by rw[Heap.size_push];exact Nat.lt_succ_of_lt (Heap.lt_size e))]
  exact Heap.get?_push_of_some _ e) (Nat.le_refl _) ⟨hlen,out.toList,ep',yF a1,he'⟩,rfl,q ns' _ a2 a3 I2.fresh⟩
def aaH:List V→Hp→VK→Prop:=fun vs H Q=>∃(a:Addr) (kvs:List (Key×V)) (ns:List Int),vs=[V.ref a]∧H a=some (.dK kvs)∧kvs.map (·.1)=ns.map (Sum.inl:Int→Key) ∧
 ∀p:Addr,H p=none→Q (.ref p) (upd H p (.lst (ns.map V.int)))
theorem Uy(hc:X.calm=true):yI X (.type "list") aaH:=by
 intro pins s σ H vs us Q I r h
 obtain⟨a,kvs,ns,rfl,ha,hk,q⟩:=h
 rw[Vals.aaL r]
 obtain⟨z,hd,vs,rel,dd⟩:=Rz I.hok ha
 obtain⟨ep,hat⟩:=dd.dictAt
 have hlv:kvs.length=vs.length:=Paired.length rel
 have hln:kvs.length=ns.length:=by have:=congrArg List.length hk;rw[List.length_map,List.length_map]at this;exact this
 refine PySem.W.kdl_call (PySem.W.kdl_dict (knd:=e_ X.prog X.w) (kvs:=vs) (ep:=ep) hd) (I.ok.hd hc) hat (by rw[← hlv];exact z) fun h' tk acc c' hk' hS hacc=>?_
 have hal:acc.toList.length=vs.length:=by rw[Array.length_toList];exact hacc.1
 have hi:IntsAre acc.toList ns:=NP (P:=X.prog) (w:=X.w) rel hk hal fun j v e=>hacc.2 j v (by rw[← Array.getElem?_toList];exact e)
 exact⟨.ref _,upd H s.heap.objs.size (.lst (ns.map V.int)),I.laid (t':=tk) hk' (Nat.le_refl _) ⟨by rw[List.length_map,← hln];exact z,acc.toList,c',yF hi,by rw[Array.toArray_toList];exact hS⟩,rfl,q _ I.fresh⟩
end
theorem Gy:∀{l l':List Int},l'.Perm l→l.Pairwise (·<·)→l'.Pairwise (·≤·)→l'=l
 |[],l',p,_,_=>List.perm_nil.mp p
 |a::r,l',p,h1,h2=>by
  cases l' with
  |nil=>exact absurd p.length_eq (by simp)
  |cons c q =>
   obtain⟨a1,a2⟩:=List.pairwise_cons.mp h1
   obtain⟨c1,c2⟩:=List.pairwise_cons.mp h2
   have e:c=a:=by
    have m1:c∈a::r:=p.mem_iff.mp List.mem_cons_self
    have m2:a∈c::q:=p.mem_iff.mpr List.mem_cons_self
    rcases List.mem_cons.mp m1 with e|m1
    ·exact e
    ·rcases List.mem_cons.mp m2 with e | m2
     ·exact e.symm
     ·have:=a1 c m1
      have:=c1 a m2
      omega
   subst e
   rw[Gy (List.Perm.cons_inv p) a2 c2]
section
variable {ta:TE}{σ:St}{H:Hp}{a:Addr}
theorem RJ{kvs:List (Key×V)}{ns:List Int}(ha:Ev ta σ H (.ref a))(e:H a=some (.dK kvs))(hk:kvs.map (·.1)=ns.map (Sum.inl:Int→Key))(hs:ns.Pairwise (·<·)):EvL (tCB VN (bw ta eV)) σ H (ns.map V.int):=fun H1 s Q k =>
 ha H1 s _ fun x' H2 s2 q=>⟨a,kvs,ns,by rw[q],s2 _ _ (s _ _ e),hk,fun ns' p h1 h2 hp=>by
  rw[Gy h1 hs h2]
  exact k _ _ (s2.trans (jl hp)) ⟨p,rfl,aX⟩⟩
end
end L2
namespace L2
open PySem PySem.Spec PyProof.Rows
section
variable {X:Cx}
def aaJ:List V→Hp→VK→Prop:=fun vs H Q=>∃(a:Addr) (ns:List Int),vs=[V.ref a]∧H a=some (.lst (ns.map V.int))∧ns.length≤400 ∧
 ∀p:Addr,H p=none→∀S:Int→Bool,Q (.ref p) (upd H p (.set S (firstMet (fun i=>ns.getD i 0) ns.length).length))
theorem Zk(hc:X.calm=true):yI X (.type "set") aaJ:=by
 intro pins s σ H vs us Q I r h
 obtain⟨a,ns,rfl,ha,hz,q⟩:=h
 rw[Vals.aaL r]
 obtain⟨its,rv,hl,_⟩:=I.list (SqL.of ha)
 have hi:=rv.ints
 have hlen:its.length=ns.length:=hi.length
 refine PySem.call_set_list (items:=its.toArray) (ns:=ns) (I.ok.hd hc) hl.isList (by simpa using hi) (by rw[List.size_toArray,hlen];unfold scanBound;omega) fun h' tk hS hk=>?_
 have es:its.toArray.size=ns.length:=by rw[List.size_toArray,hlen]
 rw[es]at hS
 exact⟨.ref _,_,I.laid (o:=.set _ (firstMet (fun i=>ns.getD i 0) ns.length).length) (t':=tk) (fun b o e=>hk b o (Heap.lt_size e) e) (Nat.le_refl _) hS,rfl,q _ I.fresh _⟩
theorem XC:yI X (.builtin "len") (fun xs H Q=>∃a S n,xs=[V.ref a]∧H a=some (.set S n)∧Q (.int (n:Nat)) H):=by
 intro pins s σ H xs us Q I r h
 obtain⟨a,S,n,rfl,ha,q⟩:=h
 rw[Vals.aaL r]
 obtain⟨o,es,ep,t,ho,hex,hd,_,_,hsc,hf,hn⟩:=I.hok a _ ha
 refine PySem.call_len_set ho hex hd hf (by unfold scanBound at hsc;omega) ?_
 rw[hn]
 exact⟨.int n,H,I.tok _,⟨_,rfl⟩,q⟩
end
theorem XM{ns:List Int}:∀{acc:List Int},(ns.foldl step_dedup acc).length≤acc.length+ns.length∧((ns.foldl step_dedup acc).length=acc.length+ns.length↔(ns.Nodup∧∀x∈ns,x∉acc)):=by
 induction ns with
 |nil=>intro acc;simp
 |cons a r ih =>
  intro acc
  rw[List.foldl_cons,List.length_cons]
  unfold step_dedup
  by_cases h:a∈acc
  ·rw[if_pos (by simpa using h)]
   obtain⟨h1,h2⟩:=ih (acc:=acc)
   refine⟨by unfold step_dedup at h1;omega,⟨fun e=>by unfold step_dedup at h1;omega,fun e=>absurd h (e.2 a List.mem_cons_self)⟩⟩
  ·rw[if_neg (by simpa using h)]
   obtain⟨h1,h2⟩:=ih (acc:=acc++[a])
   rw[List.length_append,List.length_singleton]at h1 h2
   unfold step_dedup at h1 h2
   refine⟨by omega,?_⟩
   rw[show acc.length+(r.length+1)=acc.length+1+r.length by omega,h2,List.nodup_cons]
   constructor
   ·rintro⟨e1,e2⟩
    refine⟨⟨fun m=>?_,e1⟩,fun x hx=>?_⟩
    ·exact e2 a m (by simp)
    ·rcases List.mem_cons.mp hx with rfl | hx
     ·exact h
     ·intro m
      exact e2 x hx (List.mem_append_left _ m)
   ·rintro⟨⟨e0,e1⟩,e2⟩
    refine⟨e1,fun x hx m=>?_⟩
    rcases List.mem_append.mp m with m|m
    ·exact e2 x (List.mem_cons_of_mem _ hx) m
    ·rw[List.mem_singleton.mp m]at hx
     exact e0 hx
theorem X3(ns:List Int):firstMet (fun i=>ns.getD i 0) ns.length=ns.foldl step_dedup []:=by
 unfold firstMet
 congr 1
 refine List.ext_getElem? fun k=>?_
 rw[List.getElem?_map]
 by_cases h:k<ns.length
 ·rw[List.getElem?_range h,List.getElem?_eq_getElem h]
  show some (ns.getD k 0)=_
  rw[List.getD_eq_getElem?_getD,List.getElem?_eq_getElem h]
  rfl
 ·rw[List.getElem?_eq_none (by simpa using h),List.getElem?_eq_none (by omega)]
  rfl
theorem RM(ns:List Int):(firstMet (fun i=>ns.getD i 0) ns.length).length=ns.length↔ns.Nodup:=by
 rw[X3]
 have:=(XM (ns:=ns) (acc:=[])).2
 simp only[List.length_nil,Nat.zero_add,List.not_mem_nil,not_false_eq_true,implies_true,and_true]at this
 exact this
def S7:V→List V→Hp→VK→Prop:=fun x vs H Q=>∃l b xs zs,x=.ref l∧vs=[.ref b]∧H l=some (.lst xs)∧H b=some (.tup zs)∧xs.length+zs.length≤sizeLine∧Q .non (upd H l (.lst (xs++zs)))
theorem Vl(l b:Addr)(items:Array Value)(n:Nat)(items2:Array Value)(hlong:¬(!items.isEmpty&&Builtin.List.listTooLong (items.size+items2.size))=true)(h1:items.size≤sizeLine)(h2:items.size+items2.size≤sizeLine+1) :
  Meets (Builtin.«list.extend» ⟨[.ref l,.ref b],[]⟩) (fun _ R s=>s.heap.get? l=some {cls:=.type "list",data:=.seq items n}∧IsTup s.heap b items2∧R (.ok (.ret .none)) {s with heap:=s.heap.update l (Obj.mapSeq fun x=>x++items2)}) :=
 .of_wp fun prog w A R s h=>by
  obtain⟨hl,⟨o,ho,hc,n2,hd⟩,h⟩:=h
  show wpAny _ A.in1 (Builtin.List.listExtendWith (.ref l) (.ref b) .none) _ _ s
  unfold Builtin.List.listExtendWith
  refine wpAny_bind (wpAny_typeOf ⟨o,ho,hc⟩ ?_)
  have e1:(Builtin.List.listSameRef (.ref l) (.ref b)||Value.type "tuple"==Value.type "list"||Value.type "tuple"==Value.type "tuple")=true:=by simp
  simp only[e1,if_true]
  refine wpAny_bind ?_
  unfold Builtin.List.listItems
  refine wpAny_bind (wpAny_seqItems ho hd (wpAny_pure ?_))
  refine wpAny_bind ?_
  refine wpAny_bind (wpAny_seqItems hl rfl (wpAny_pure ?_))
  rw[if_neg hlong]
  show wpAny _ A.in1 (updateSeq l (fun x=>x++items2) >>= fun _=>ret .none) _ _ s
  refine wpAny_bind (wpAny_updateSeq hl rfl (hz:=h1) (_hz':=by rw[Array.size_append];exact h2) ?_)
  exact wpAny_pure ⟨_,rfl,h⟩
theorem Vm{X:Cx}:MtM X "list.extend" S7:=by
 intro pins s σ H x vs v us Q I rx rv h
 obtain⟨l,b,xs,zs,rfl,rfl,hH,hB,hz,q⟩:=h
 cases rx
 obtain⟨u,rfl,ru⟩:=rv.one
 cases ru
 obtain⟨z,its,n,r,hl,e⟩:=I.Ih hH
 obtain⟨its2,r2,e2,z2⟩:=I.tuple (SqT.of hB)
 have hl2:=r2.length
 have hsz:its.toArray.size+its2.toArray.size≤sizeLine:=by rw[List.size_toArray,List.size_toArray];omega
 refine call_meets F.slot_list_extend ⟨_,e,rfl⟩ F.entry_list_extend (F.args_list_extend_2 _ _)
  (Vl l b its.toArray n its2.toArray (by rw[Su hsz,Bool.and_false];exact Bool.false_ne_true) (by rw[List.size_toArray];omega) (by omega)) ⟨e,e2,?_⟩
 refine⟨.non,_,I.R5 (its':=its++its2) hH e (by simp) (r.append r2) ?_,rfl,q⟩
 rw[List.length_append]
 omega
end L2
namespace L2
open PySem PySem.Spec PyProof.Rows
def yJ(ns:List Int):PyData:=.list (ns.map PyData.int)
theorem Wu{K:PySem.W.Frag}{H:Hp}{a:Addr}{ns:List Int}(h:H a=some (.lst (ns.map V.int))):Dp K H (.ref a) (yJ ns):=.lst (SqL.of h) (by
 clear h
 induction ns with
 |nil=>exact .nil
 |cons n r ih=>exact .cons (.int n) ih)
theorem Rr(ns:List Int):(yJ ns).canLay0=true:=by
 show PyData.canLayAll0 (ns.map PyData.int)=true
 induction ns with
 |nil=>rfl
 |cons n r ih=>exact ih
theorem UW(ns:List Int):(yJ ns).depth≤2:=by
 have h:PyData.depthAll (ns.map PyData.int)≤1:=by
  induction ns with
  |nil=>decide
  |cons n r ih =>
   show max (PyData.depth (.int n)) (PyData.depthAll (r.map PyData.int))≤1
   exact Nat.max_le.mpr ⟨by first | exact Nat.le_refl _ | exact Nat.zero_le _,ih⟩
 show PyData.depthAll (ns.map PyData.int)+1≤2
 omega
theorem RG:∀a b:List Int,PyData.eqvAll (a.map PyData.int) (b.map PyData.int)=decide (a=b)
 |[],[]=>rfl
 |[],_::_=>rfl
 |_::_,[]=>rfl
 |x::a,y::b=>by
  show((x==y)&&PyData.eqvAll (a.map PyData.int) (b.map PyData.int))=_
  rw[RG a b,Bool.eq_iff_iff]
  simp
def aaI:R2:=fun x y H Q=>∃a l ns,∃rows:List (Addr×List Int),x=.ref a∧y=.ref l∧H a=some (.lst (ns.map V.int))∧H l=some (.lst (rows.map fun r=>V.ref r.1))∧(∀r∈rows,H r.1=some (.lst (r.2.map V.int)))∧Q (.bl (!rows.any fun r=>decide (r.2=ns))) H
theorem MT{X:Cx}(hu:X.A.units+65<cLine):OpR X (compareOp .NotIn) aaI:=by
 intro pins s σ H x y v u Q I rx ry h
 obtain⟨a,l,ns,rows,rfl,rfl,ha,hl,hr,q⟩:=h
 obtain⟨as,r1⟩:=Dp.reads I (yJ ns) _ v (Wu ha) rx
 have hd:Dp X.K H (.ref l) (.list (rows.map fun r=>yJ r.2)):=.lst (SqL.of hl) (by
  clear hl q
  induction rows with
  |nil=>exact .nil
  |cons r t ih=>exact .cons (Wu (hr r List.mem_cons_self)) (ih fun z hz=>hr z (List.mem_cons_of_mem _ hz)))
 obtain⟨bs,r2⟩:=Dp.reads I _ _ u hd ry
 refine SeqAt.notIn_list_reads r2 r1 ?_ (Rr ns) ?_ ⟨.bl _,H,I,rfl,?_⟩
 ·clear hl hr q hd r2
  induction rows with
  |nil=>rfl
  |cons r t ih =>
   show(PyData.canLay0 (yJ r.2)&&PyData.canLayAll0 (t.map fun r=>yJ r.2))=true
   rw[ih,Rr]
   rfl
 ·have h1:=UW ns
  have h2:min (PyData.depthAll (rows.map fun r=>yJ r.2)) (yJ ns).depth≤(yJ ns).depth:=Nat.min_le_right _ _
  omega
 ·rw[List.any_map]
  have e:((fun y=>PyData.eqv y (yJ ns))∘fun r:Addr×List Int=>yJ r.2)=fun r=>decide (r.2=ns):=by
   funext r
   show PyData.eqvAll (r.2.map PyData.int) (ns.map PyData.int)=_
   exact RG r.2 ns
  rw[e]
  exact q
end L2
end
section
set_option Elab.async false
set_option linter.all false
set_option maxRecDepth 100000
namespace Jq
open PySem PySem.Spec PyProof.Rows L2
theorem dh{f:Str}{v:V}{r:List (Str×V)}:((f,v)::r).lookup f=some v:=by
 rw[List.lookup_cons,beq_self_eq_true]
theorem aF{f g:Str}{v:V}{r:List (Str×V)}{o:Option V}(h:(g==f)=false)(e:r.lookup g=o):((f,v)::r).lookup g=o:=by
 rw[List.lookup_cons,h]
 exact e
theorem dM{f:Str}{v x:V}{r:List (Str×V)}:bK f v ((f,x)::r)=(f,v)::r:=if_pos rfl
theorem au{f g:Str}{v x:V}{r r':List (Str×V)}(h:(f==g)=false)(e:bK f v r=r'):bK f v ((g,x)::r)=(g,x)::r':=by
 have h':¬g=f:=fun q=>by rw[q,beq_self_eq_true]at h;cases h
 exact(if_neg h').trans (by rw[e])
theorem zO:(("name" : Str)==("number" : Str))=false:=by decide +kernel
theorem oJ:(("class_of" : Str)==("number" : Str))=false:=by decide +kernel
theorem qW:(("class_of" : Str)==("name" : Str))=false:=by decide +kernel
theorem oW:(("priority" : Str)==("number" : Str))=false:=by decide +kernel
theorem rF:(("priority" : Str)==("name" : Str))=false:=by decide +kernel
theorem lL:(("priority" : Str)==("class_of" : Str))=false:=by decide +kernel
theorem uT:(("held" : Str)==("number" : Str))=false:=by decide +kernel
theorem yj:(("held" : Str)==("name" : Str))=false:=by decide +kernel
theorem rB:(("held" : Str)==("class_of" : Str))=false:=by decide +kernel
theorem rC:(("held" : Str)==("priority" : Str))=false:=by decide +kernel
theorem tM:(("tests" : Str)==("number" : Str))=false:=by decide +kernel
theorem wu:(("tests" : Str)==("name" : Str))=false:=by decide +kernel
theorem pY:(("tests" : Str)==("class_of" : Str))=false:=by decide +kernel
theorem pZ:(("tests" : Str)==("priority" : Str))=false:=by decide +kernel
theorem wj:(("tests" : Str)==("held" : Str))=false:=by decide +kernel
theorem tL:(("state" : Str)==("number" : Str))=false:=by decide +kernel
theorem wg:(("state" : Str)==("name" : Str))=false:=by decide +kernel
theorem pW:(("state" : Str)==("class_of" : Str))=false:=by decide +kernel
theorem pX:(("state" : Str)==("priority" : Str))=false:=by decide +kernel
theorem v_:(("state" : Str)==("held" : Str))=false:=by decide +kernel
theorem uX:(("state" : Str)==("tests" : Str))=false:=by decide +kernel
theorem uQ:(("code" : Str)==("number" : Str))=false:=by decide +kernel
theorem yh:(("code" : Str)==("name" : Str))=false:=by decide +kernel
theorem qY:(("code" : Str)==("class_of" : Str))=false:=by decide +kernel
theorem qZ:(("code" : Str)==("priority" : Str))=false:=by decide +kernel
theorem yg:(("code" : Str)==("held" : Str))=false:=by decide +kernel
theorem v8:(("code" : Str)==("tests" : Str))=false:=by decide +kernel
theorem v7:(("code" : Str)==("state" : Str))=false:=by decide +kernel
theorem rH:(("waited" : Str)==("number" : Str))=false:=by decide +kernel
theorem u0:(("waited" : Str)==("name" : Str))=false:=by decide +kernel
theorem oX:(("waited" : Str)==("class_of" : Str))=false:=by decide +kernel
theorem oY:(("waited" : Str)==("priority" : Str))=false:=by decide +kernel
theorem uZ:(("waited" : Str)==("held" : Str))=false:=by decide +kernel
theorem tQ:(("waited" : Str)==("tests" : Str))=false:=by decide +kernel
theorem tO:(("waited" : Str)==("state" : Str))=false:=by decide +kernel
theorem uY:(("waited" : Str)==("code" : Str))=false:=by decide +kernel
theorem j6:(("passed_over" : Str)==("number" : Str))=false:=by decide +kernel
theorem m9:(("passed_over" : Str)==("name" : Str))=false:=by decide +kernel
theorem jg:(("passed_over" : Str)==("class_of" : Str))=false:=by decide +kernel
theorem jh:(("passed_over" : Str)==("priority" : Str))=false:=by decide +kernel
theorem m8:(("passed_over" : Str)==("held" : Str))=false:=by decide +kernel
theorem lK:(("passed_over" : Str)==("tests" : Str))=false:=by decide +kernel
theorem lJ:(("passed_over" : Str)==("state" : Str))=false:=by decide +kernel
theorem m7:(("passed_over" : Str)==("code" : Str))=false:=by decide +kernel
theorem j9:(("passed_over" : Str)==("waited" : Str))=false:=by decide +kernel
theorem oK:(("due_turn" : Str)==("number" : Str))=false:=by decide +kernel
theorem rA:(("due_turn" : Str)==("name" : Str))=false:=by decide +kernel
theorem lD:(("due_turn" : Str)==("class_of" : Str))=false:=by decide +kernel
theorem lE:(("due_turn" : Str)==("priority" : Str))=false:=by decide +kernel
theorem rm:(("due_turn" : Str)==("held" : Str))=false:=by decide +kernel
theorem pR:(("due_turn" : Str)==("tests" : Str))=false:=by decide +kernel
theorem pQ:(("due_turn" : Str)==("state" : Str))=false:=by decide +kernel
theorem q_:(("due_turn" : Str)==("code" : Str))=false:=by decide +kernel
theorem oM:(("due_turn" : Str)==("waited" : Str))=false:=by decide +kernel
theorem je:(("due_turn" : Str)==("passed_over" : Str))=false:=by decide +kernel
structure JV where
 number:Int
 name:Addr
 JL:Int
 priority:Int
 held:Bool
 tests:Addr
 state:Int
 code:Int
 waited:Int
 sU:Int
 zu:Int
def JV.fs(j:JV):List (Str×V):=[("number",V.int j.number),("name",V.ref j.name),("class_of",V.int j.JL),("priority",V.int j.priority),("held",V.bl j.held),("tests",V.ref j.tests),("state",V.int j.state),("code",V.int j.code),("waited",V.int j.waited),("passed_over",V.int j.sU),("due_turn",V.int j.zu)]
theorem JV.few(j:JV):j.fs.length<1000:=by show 11<1000;decide
theorem JV.aaa(j:JV):j.fs.lookup ("number" : Str)=some (V.int j.number):=dh
theorem JV.Vg(j:JV):j.fs.lookup ("name" : Str)=some (V.ref j.name):=(aF zO dh)
theorem JV.Ve(j:JV):j.fs.lookup ("class_of" : Str)=some (V.int j.JL):=(aF oJ (aF qW dh))
theorem JV.Vx(j:JV)(z:Int):bK "class_of" (V.int z) j.fs={j with JL:=z}.fs:=(au oJ (au qW dM))
theorem JV.Vh(j:JV):j.fs.lookup ("priority" : Str)=some (V.int j.priority):=(aF oW (aF rF (aF lL dh)))
theorem JV.Vz(j:JV)(z:Int):bK "priority" (V.int z) j.fs={j with priority:=z}.fs:=(au oW (au rF (au lL dM)))
theorem JV.ac_(j:JV):j.fs.lookup ("held" : Str)=some (V.bl j.held):=(aF uT (aF yj (aF rB (aF rC dh))))
theorem JV.Vy(j:JV)(z:Bool):bK "held" (V.bl z) j.fs={j with held:=z}.fs:=(au uT (au yj (au rB (au rC dM))))
theorem JV.IK(j:JV):j.fs.lookup ("tests" : Str)=some (V.ref j.tests):=(aF tM (aF wu (aF pY (aF pZ (aF wj dh)))))
theorem JV.W5(j:JV)(z:Addr):bK "tests" (V.ref z) j.fs={j with tests:=z}.fs:=(au tM (au wu (au pY (au pZ (au wj dM)))))
theorem JV.abJ(j:JV):j.fs.lookup ("state" : Str)=some (V.int j.state):=(aF tL (aF wg (aF pW (aF pX (aF v_ (aF uX dh))))))
theorem JV.QC(j:JV)(z:Int):bK "state" (V.int z) j.fs={j with state:=z}.fs:=(au tL (au wg (au pW (au pX (au v_ (au uX dM))))))
theorem JV.ac9(j:JV):j.fs.lookup ("code" : Str)=some (V.int j.code):=(aF uQ (aF yh (aF qY (aF qZ (aF yg (aF v8 (aF v7 dh)))))))
theorem JV.adm(j:JV)(z:Int):bK "code" (V.int z) j.fs={j with code:=z}.fs:=(au uQ (au yh (au qY (au qZ (au yg (au v8 (au v7 dM)))))))
theorem JV.R3(j:JV):j.fs.lookup ("waited" : Str)=some (V.int j.waited):=(aF rH (aF u0 (aF oX (aF oY (aF uZ (aF tQ (aF tO (aF uY dh))))))))
theorem JV.aav(j:JV)(z:Int):bK "waited" (V.int z) j.fs={j with waited:=z}.fs:=(au rH (au u0 (au oX (au oY (au uZ (au tQ (au tO (au uY dM))))))))
theorem JV.Ca(j:JV):j.fs.lookup ("passed_over" : Str)=some (V.int j.sU):=(aF j6 (aF m9 (aF jg (aF jh (aF m8 (aF lK (aF lJ (aF m7 (aF j9 dh)))))))))
theorem JV.wA(j:JV)(z:Int):bK "passed_over" (V.int z) j.fs={j with sU:=z}.fs:=(au j6 (au m9 (au jg (au jh (au m8 (au lK (au lJ (au m7 (au j9 dM)))))))))
theorem JV.Vf(j:JV):j.fs.lookup ("due_turn" : Str)=some (V.int j.zu):=(aF oK (aF rA (aF lD (aF lE (aF rm (aF pR (aF pQ (aF q_ (aF oM (aF je dh))))))))))
theorem JV.Dk(j:JV)(z:Int):bK "due_turn" (V.int z) j.fs={j with zu:=z}.fs:=(au oK (au rA (au lD (au lE (au rm (au pR (au pQ (au q_ (au oM (au je dM))))))))))
theorem JV.ZZ(z:V):bK "number" z []=([("number",z)]:List (Str×V)):=rfl
theorem JV.acX{x0:V}(z:V):bK "name" z [("number",x0)]=([("number",x0),("name",z)]:List (Str×V)):=(au zO rfl)
theorem JV.U8{x0 x1:V}(z:V):bK "class_of" z [("number",x0),("name",x1)]=([("number",x0),("name",x1),("class_of",z)]:List (Str×V)):=(au oJ (au qW rfl))
theorem JV.Va{x0 x1 x2:V}(z:V):bK "priority" z [("number",x0),("name",x1),("class_of",x2)]=([("number",x0),("name",x1),("class_of",x2),("priority",z)]:List (Str×V)):=(au oW (au rF (au lL rfl)))
theorem JV.acV{x0 x1 x2 x3:V}(z:V):bK "held" z [("number",x0),("name",x1),("class_of",x2),("priority",x3)]=([("number",x0),("name",x1),("class_of",x2),("priority",x3),("held",z)]:List (Str×V)):=(au uT (au yj (au rB (au rC rfl))))
theorem JV.abD{x0 x1 x2 x3 x4:V}(z:V):bK "tests" z [("number",x0),("name",x1),("class_of",x2),("priority",x3),("held",x4)]=([("number",x0),("name",x1),("class_of",x2),("priority",x3),("held",x4),("tests",z)]:List (Str×V)):=(au tM (au wu (au pY (au pZ (au wj rfl)))))
theorem JV.abC{x0 x1 x2 x3 x4 x5:V}(z:V):bK "state" z [("number",x0),("name",x1),("class_of",x2),("priority",x3),("held",x4),("tests",x5)]=([("number",x0),("name",x1),("class_of",x2),("priority",x3),("held",x4),("tests",x5),("state",z)]:List (Str×V)):=(au tL (au wg (au pW (au pX (au v_ (au uX rfl))))))
theorem JV.acU{x0 x1 x2 x3 x4 x5 x6:V}(z:V):bK "code" z [("number",x0),("name",x1),("class_of",x2),("priority",x3),("held",x4),("tests",x5),("state",x6)]=([("number",x0),("name",x1),("class_of",x2),("priority",x3),("held",x4),("tests",x5),("state",x6),("code",z)]:List (Str×V)):=(au uQ (au yh (au qY (au qZ (au yg (au v8 (au v7 rfl)))))))
theorem JV.Z0{x0 x1 x2 x3 x4 x5 x6 x7:V}(z:V):bK "waited" z [("number",x0),("name",x1),("class_of",x2),("priority",x3),("held",x4),("tests",x5),("state",x6),("code",x7)]=([("number",x0),("name",x1),("class_of",x2),("priority",x3),("held",x4),("tests",x5),("state",x6),("code",x7),("waited",z)]:List (Str×V)):=(au rH (au u0 (au oX (au oY (au uZ (au tQ (au tO (au uY rfl))))))))
theorem JV.Mu{x0 x1 x2 x3 x4 x5 x6 x7 x8:V}(z:V):bK "passed_over" z [("number",x0),("name",x1),("class_of",x2),("priority",x3),("held",x4),("tests",x5),("state",x6),("code",x7),("waited",x8)]=([("number",x0),("name",x1),("class_of",x2),("priority",x3),("held",x4),("tests",x5),("state",x6),("code",x7),("waited",x8),("passed_over",z)]:List (Str×V)):=(au j6 (au m9 (au jg (au jh (au m8 (au lK (au lJ (au m7 (au j9 rfl)))))))))
theorem JV.U_{x0 x1 x2 x3 x4 x5 x6 x7 x8 x9:V}(z:V):bK "due_turn" z [("number",x0),("name",x1),("class_of",x2),("priority",x3),("held",x4),("tests",x5),("state",x6),("code",x7),("waited",x8),("passed_over",x9)]=([("number",x0),("name",x1),("class_of",x2),("priority",x3),("held",x4),("tests",x5),("state",x6),("code",x7),("waited",x8),("passed_over",x9),("due_turn",z)]:List (Str×V)):=(au oK (au rA (au lD (au lE (au rm (au pR (au pQ (au q_ (au oM (au je rfl))))))))))
theorem vZ:(("classes" : Str)==("on" : Str))=false:=by decide +kernel
theorem uR:(("draining" : Str)==("on" : Str))=false:=by decide +kernel
theorem mZ:(("draining" : Str)==("classes" : Str))=false:=by decide +kernel
theorem Dd:(("runs" : Str)==("on" : Str))=false:=by decide +kernel
theorem tK:(("runs" : Str)==("classes" : Str))=false:=by decide +kernel
theorem rG:(("runs" : Str)==("draining" : Str))=false:=by decide +kernel
structure IV where
 on:Bool
 classes:Addr
 draining:Bool
 runs:Int
def IV.fs(j:IV):List (Str×V):=[("on",V.bl j.on),("classes",V.ref j.classes),("draining",V.bl j.draining),("runs",V.int j.runs)]
theorem IV.few(j:IV):j.fs.length<1000:=by show 4<1000;decide
theorem IV.aep(j:IV):j.fs.lookup ("on" : Str)=some (V.bl j.on):=dh
theorem IV.ad3(j:IV)(z:Bool):bK "on" (V.bl z) j.fs={j with on:=z}.fs:=dM
theorem IV.Yj(j:IV):j.fs.lookup ("classes" : Str)=some (V.ref j.classes):=(aF vZ dh)
theorem IV.Gx(j:IV)(z:Addr):bK "classes" (V.ref z) j.fs={j with classes:=z}.fs:=(au vZ dM)
theorem IV.J9(j:IV):j.fs.lookup ("draining" : Str)=some (V.bl j.draining):=(aF uR (aF mZ dh))
theorem IV.Dj(j:IV)(z:Bool):bK "draining" (V.bl z) j.fs={j with draining:=z}.fs:=(au uR (au mZ dM))
theorem IV.adb(j:IV):j.fs.lookup ("runs" : Str)=some (V.int j.runs):=(aF Dd (aF tK (aF rG dh)))
theorem IV.VB(j:IV)(z:Int):bK "runs" (V.int z) j.fs={j with runs:=z}.fs:=(au Dd (au tK (au rG dM)))
theorem IV.aen(z:V):bK "on" z []=([("on",z)]:List (Str×V)):=rfl
theorem IV.Yb{x0:V}(z:V):bK "classes" z [("on",x0)]=([("on",x0),("classes",z)]:List (Str×V)):=(au vZ rfl)
theorem IV.U9{x0 x1:V}(z:V):bK "draining" z [("on",x0),("classes",x1)]=([("on",x0),("classes",x1),("draining",z)]:List (Str×V)):=(au uR (au mZ rfl))
theorem IV.acY{x0 x1 x2:V}(z:V):bK "runs" z [("on",x0),("classes",x1),("draining",x2)]=([("on",x0),("classes",x1),("draining",x2),("runs",z)]:List (Str×V)):=(au Dd (au tK (au rG rfl)))
theorem Kf:(("k" : Str)==("cap" : Str))=false:=by decide +kernel
theorem Ke:(("a" : Str)==("cap" : Str))=false:=by decide +kernel
theorem Vn:(("a" : Str)==("k" : Str))=false:=by decide +kernel
theorem zR:(("time" : Str)==("cap" : Str))=false:=by decide +kernel
theorem Gv:(("time" : Str)==("k" : Str))=false:=by decide +kernel
theorem Gu:(("time" : Str)==("a" : Str))=false:=by decide +kernel
theorem zL:(("jobs" : Str)==("cap" : Str))=false:=by decide +kernel
theorem Gs:(("jobs" : Str)==("k" : Str))=false:=by decide +kernel
theorem Gq:(("jobs" : Str)==("a" : Str))=false:=by decide +kernel
theorem yl:(("jobs" : Str)==("time" : Str))=false:=by decide +kernel
theorem oV:(("last_number" : Str)==("cap" : Str))=false:=by decide +kernel
theorem rE:(("last_number" : Str)==("k" : Str))=false:=by decide +kernel
theorem rD:(("last_number" : Str)==("a" : Str))=false:=by decide +kernel
theorem m6:(("last_number" : Str)==("time" : Str))=false:=by decide +kernel
theorem m5:(("last_number" : Str)==("jobs" : Str))=false:=by decide +kernel
theorem lH:(("last_due_turn" : Str)==("cap" : Str))=false:=by decide +kernel
theorem oU:(("last_due_turn" : Str)==("k" : Str))=false:=by decide +kernel
theorem oR:(("last_due_turn" : Str)==("a" : Str))=false:=by decide +kernel
theorem j4:(("last_due_turn" : Str)==("time" : Str))=false:=by decide +kernel
theorem j0:(("last_due_turn" : Str)==("jobs" : Str))=false:=by decide +kernel
theorem gh:(("last_due_turn" : Str)==("last_number" : Str))=false:=by decide +kernel
theorem v9:(("limits" : Str)==("cap" : Str))=false:=by decide +kernel
theorem zN:(("limits" : Str)==("k" : Str))=false:=by decide +kernel
theorem zM:(("limits" : Str)==("a" : Str))=false:=by decide +kernel
theorem uV:(("limits" : Str)==("time" : Str))=false:=by decide +kernel
theorem uU:(("limits" : Str)==("jobs" : Str))=false:=by decide +kernel
theorem j5:(("limits" : Str)==("last_number" : Str))=false:=by decide +kernel
theorem jf:(("limits" : Str)==("last_due_turn" : Str))=false:=by decide +kernel
theorem v5:(("closed" : Str)==("cap" : Str))=false:=by decide +kernel
theorem zK:(("closed" : Str)==("k" : Str))=false:=by decide +kernel
theorem zJ:(("closed" : Str)==("a" : Str))=false:=by decide +kernel
theorem uP:(("closed" : Str)==("time" : Str))=false:=by decide +kernel
theorem uO:(("closed" : Str)==("jobs" : Str))=false:=by decide +kernel
theorem jZ:(("closed" : Str)==("last_number" : Str))=false:=by decide +kernel
theorem jd:(("closed" : Str)==("last_due_turn" : Str))=false:=by decide +kernel
theorem qX:(("closed" : Str)==("limits" : Str))=false:=by decide +kernel
theorem pU:(("initiators" : Str)==("cap" : Str))=false:=by decide +kernel
theorem tH:(("initiators" : Str)==("k" : Str))=false:=by decide +kernel
theorem tG:(("initiators" : Str)==("a" : Str))=false:=by decide +kernel
theorem oO:(("initiators" : Str)==("time" : Str))=false:=by decide +kernel
theorem oN:(("initiators" : Str)==("jobs" : Str))=false:=by decide +kernel
theorem gY:(("initiators" : Str)==("last_number" : Str))=false:=by decide +kernel
theorem gA:(("initiators" : Str)==("last_due_turn" : Str))=false:=by decide +kernel
theorem lG:(("initiators" : Str)==("limits" : Str))=false:=by decide +kernel
theorem lF:(("initiators" : Str)==("closed" : Str))=false:=by decide +kernel
structure BV where
 cap:Int
 k:Int
 a:Int
 time:Int
 jobs:Addr
 zF:Int
 vX:Int
 limits:Addr
 closed:Addr
 initiators:Addr
def BV.fs(j:BV):List (Str×V):=[("cap",V.int j.cap),("k",V.int j.k),("a",V.int j.a),("time",V.int j.time),("jobs",V.ref j.jobs),("last_number",V.int j.zF),("last_due_turn",V.int j.vX),("limits",V.ref j.limits),("closed",V.ref j.closed),("initiators",V.ref j.initiators)]
theorem BV.few(j:BV):j.fs.length<1000:=by show 10<1000;decide
theorem BV.adZ(j:BV):j.fs.lookup ("cap" : Str)=some (V.int j.cap):=dh
theorem BV.ad2(j:BV)(z:Int):bK "cap" (V.int z) j.fs={j with cap:=z}.fs:=dM
theorem BV.l_k(j:BV):j.fs.lookup ("k" : Str)=some (V.int j.k):=(aF Kf dh)
theorem BV.p_k(j:BV)(z:Int):bK "k" (V.int z) j.fs={j with k:=z}.fs:=(au Kf dM)
theorem BV.l_a(j:BV):j.fs.lookup ("a" : Str)=some (V.int j.a):=(aF Ke (aF Vn dh))
theorem BV.p_a(j:BV)(z:Int):bK "a" (V.int z) j.fs={j with a:=z}.fs:=(au Ke (au Vn dM))
theorem BV.aab(j:BV):j.fs.lookup ("time" : Str)=some (V.int j.time):=(aF zR (aF Gv (aF Gu dh)))
theorem BV.aau(j:BV)(z:Int):bK "time" (V.int z) j.fs={j with time:=z}.fs:=(au zR (au Gv (au Gu dM)))
theorem BV.ada(j:BV):j.fs.lookup ("jobs" : Str)=some (V.ref j.jobs):=(aF zL (aF Gs (aF Gq (aF yl dh))))
theorem BV.adn(j:BV)(z:Addr):bK "jobs" (V.ref z) j.fs={j with jobs:=z}.fs:=(au zL (au Gs (au Gq (au yl dM))))
theorem BV.Mv(j:BV):j.fs.lookup ("last_number" : Str)=some (V.int j.zF):=(aF oV (aF rE (aF rD (aF m6 (aF m5 dh)))))
theorem BV.Cm(j:BV)(z:Int):bK "last_number" (V.int z) j.fs={j with zF:=z}.fs:=(au oV (au rE (au rD (au m6 (au m5 dM)))))
theorem BV.yM(j:BV):j.fs.lookup ("last_due_turn" : Str)=some (V.int j.vX):=(aF lH (aF oU (aF oR (aF j4 (aF j0 (aF gh dh))))))
theorem BV.yP(j:BV)(z:Int):bK "last_due_turn" (V.int z) j.fs={j with vX:=z}.fs:=(au lH (au oU (au oR (au j4 (au j0 (au gh dM))))))
theorem BV.Z_(j:BV):j.fs.lookup ("limits" : Str)=some (V.ref j.limits):=(aF v9 (aF zN (aF zM (aF uV (aF uU (aF j5 (aF jf dh)))))))
theorem BV.aat(j:BV)(z:Addr):bK "limits" (V.ref z) j.fs={j with limits:=z}.fs:=(au v9 (au zN (au zM (au uV (au uU (au j5 (au jf dM)))))))
theorem BV.Z9(j:BV):j.fs.lookup ("closed" : Str)=some (V.ref j.closed):=(aF v5 (aF zK (aF zJ (aF uP (aF uO (aF jZ (aF jd (aF qX dh))))))))
theorem BV.aas(j:BV)(z:Addr):bK "closed" (V.ref z) j.fs={j with closed:=z}.fs:=(au v5 (au zK (au zJ (au uP (au uO (au jZ (au jd (au qX dM))))))))
theorem BV.Qp(j:BV):j.fs.lookup ("initiators" : Str)=some (V.ref j.initiators):=(aF pU (aF tH (aF tG (aF oO (aF oN (aF gY (aF gA (aF lG (aF lF dh)))))))))
theorem BV.QB(j:BV)(z:Addr):bK "initiators" (V.ref z) j.fs={j with initiators:=z}.fs:=(au pU (au tH (au tG (au oO (au oN (au gY (au gA (au lG (au lF dM)))))))))
theorem BV.adX(z:V):bK "cap" z []=([("cap",z)]:List (Str×V)):=rfl
theorem BV.i_k{x0:V}(z:V):bK "k" z [("cap",x0)]=([("cap",x0),("k",z)]:List (Str×V)):=(au Kf rfl)
theorem BV.i_a{x0 x1:V}(z:V):bK "a" z [("cap",x0),("k",x1)]=([("cap",x0),("k",x1),("a",z)]:List (Str×V)):=(au Ke (au Vn rfl))
theorem BV.acZ{x0 x1 x2:V}(z:V):bK "time" z [("cap",x0),("k",x1),("a",x2)]=([("cap",x0),("k",x1),("a",x2),("time",z)]:List (Str×V)):=(au zR (au Gv (au Gu rfl)))
theorem BV.acW{x0 x1 x2 x3:V}(z:V):bK "jobs" z [("cap",x0),("k",x1),("a",x2),("time",x3)]=([("cap",x0),("k",x1),("a",x2),("time",x3),("jobs",z)]:List (Str×V)):=(au zL (au Gs (au Gq (au yl rfl))))
theorem BV.Mt{x0 x1 x2 x3 x4:V}(z:V):bK "last_number" z [("cap",x0),("k",x1),("a",x2),("time",x3),("jobs",x4)]=([("cap",x0),("k",x1),("a",x2),("time",x3),("jobs",x4),("last_number",z)]:List (Str×V)):=(au oV (au rE (au rD (au m6 (au m5 rfl)))))
theorem BV.Ib{x0 x1 x2 x3 x4 x5:V}(z:V):bK "last_due_turn" z [("cap",x0),("k",x1),("a",x2),("time",x3),("jobs",x4),("last_number",x5)]=([("cap",x0),("k",x1),("a",x2),("time",x3),("jobs",x4),("last_number",x5),("last_due_turn",z)]:List (Str×V)):=(au lH (au oU (au oR (au j4 (au j0 (au gh rfl))))))
theorem BV.ZX{x0 x1 x2 x3 x4 x5 x6:V}(z:V):bK "limits" z [("cap",x0),("k",x1),("a",x2),("time",x3),("jobs",x4),("last_number",x5),("last_due_turn",x6)]=([("cap",x0),("k",x1),("a",x2),("time",x3),("jobs",x4),("last_number",x5),("last_due_turn",x6),("limits",z)]:List (Str×V)):=(au v9 (au zN (au zM (au uV (au uU (au j5 (au jf rfl)))))))
theorem BV.ZW{x0 x1 x2 x3 x4 x5 x6 x7:V}(z:V):bK "closed" z [("cap",x0),("k",x1),("a",x2),("time",x3),("jobs",x4),("last_number",x5),("last_due_turn",x6),("limits",x7)]=([("cap",x0),("k",x1),("a",x2),("time",x3),("jobs",x4),("last_number",x5),("last_due_turn",x6),("limits",x7),("closed",z)]:List (Str×V)):=(au v5 (au zK (au zJ (au uP (au uO (au jZ (au jd (au qX rfl))))))))
theorem BV.Qj{x0 x1 x2 x3 x4 x5 x6 x7 x8:V}(z:V):bK "initiators" z [("cap",x0),("k",x1),("a",x2),("time",x3),("jobs",x4),("last_number",x5),("last_due_turn",x6),("limits",x7),("closed",x8)]=([("cap",x0),("k",x1),("a",x2),("time",x3),("jobs",x4),("last_number",x5),("last_due_turn",x6),("limits",x7),("closed",x8),("initiators",z)]:List (Str×V)):=(au pU (au tH (au tG (au oO (au oN (au gY (au gA (au lG (au lF rfl)))))))))
theorem uW:(("place" : Str)==("calls" : Str))=false:=by decide +kernel
structure RV where
 calls:Addr
 place:Int
def RV.fs(j:RV):List (Str×V):=[("calls",V.ref j.calls),("place",V.int j.place)]
theorem RV.few(j:RV):j.fs.length<1000:=by show 2<1000;decide
theorem RV.Qo(j:RV):j.fs.lookup ("calls" : Str)=some (V.ref j.calls):=dh
theorem RV.Bf(j:RV):j.fs.lookup ("place" : Str)=some (V.int j.place):=(aF uW dh)
theorem RV.W4(j:RV)(z:Int):bK "place" (V.int z) j.fs={j with place:=z}.fs:=(au uW dM)
theorem RV.abA(z:V):bK "calls" z []=([("calls",z)]:List (Str×V)):=rfl
theorem RV.abB{x0:V}(z:V):bK "place" z [("calls",x0)]=([("calls",x0),("place",z)]:List (Str×V)):=(au uW rfl)
theorem C_:(("is_at_end" : Str)==("calls" : Str))=false:=by decide +kernel
theorem Dc:(("is_at_end" : Str)==("place" : Str))=false:=by decide +kernel
theorem RV.Qw(j:RV):j.fs.lookup ("is_at_end" : Str)=none:=aF C_ (aF Dc rfl)
theorem zP:(("take_number" : Str)==("calls" : Str))=false:=by decide +kernel
theorem zQ:(("take_number" : Str)==("place" : Str))=false:=by decide +kernel
theorem RV.u5(j:RV):j.fs.lookup ("take_number" : Str)=none:=aF zP (aF zQ rfl)
theorem Er:(("take_row" : Str)==("calls" : Str))=false:=by decide +kernel
theorem Es:(("take_row" : Str)==("place" : Str))=false:=by decide +kernel
theorem RV.Ss(j:RV):j.fs.lookup ("take_row" : Str)=none:=aF Er (aF Es rfl)
theorem Mx:(("number" : Str)==("cap" : Str))=false:=by decide +kernel
theorem Yn:(("on" : Str)==("cap" : Str))=false:=by decide +kernel
theorem Qu:(("number" : Str)==("on" : Str))=false:=by decide +kernel
theorem Ii:(("number" : Str)==("calls" : Str))=false:=by decide +kernel
theorem Qt:(("cap" : Str)==("calls" : Str))=false:=by decide +kernel
theorem Sh:(("on" : Str)==("calls" : Str))=false:=by decide +kernel
def Kp(a:Addr)(H H':Hp):Prop:=∀b o,H b=some o→b≠a→H' b=some o
theorem Kp.refl(a:Addr)(H:Hp):Kp a H H:=fun _ _ h _=>h
theorem Kp.trans{a:Addr}{H H1 H2:Hp}(x:Kp a H H1)(y:Kp a H1 H2):Kp a H H2:=fun b o h n=>y b o (x b o h n) n
theorem _root_.L2.aY.kp{H H':Hp}(s:aY H H')(a:Addr):Kp a H H':=fun b o h _=>s b o h
theorem Kp.upd(a:Addr)(H:Hp)(o:HO):Kp a H (upd H a o):=fun b q h n=>by rw[aO n];exact h
section
variable {K:PySem.W.Frag}{ta tv ty:TE}{σ:St}{H:Hp}{D:Ends}{a C dx:Addr}{fs:List (Str×V)}{f:Str}{y:V}
theorem bT(hv:Ev tv σ H y)(ha:Ev ta σ H (.ref a))(e:H a=some (.ins C dx fs))(c:Cls K C)(n:cJ K C f)(hl:fs.length<1000)
  (k:∀H',Kp a H H'→H' a=some (.ins C dx (bK f y fs))→D.nx σ H'):adw K ta tv f D σ H :=
 Ev.use hv fun H1 s1=>(Ev.use (ha.up s1) fun H2 s2=>⟨a,C,dx,fs,rfl,s2 _ _ (s1 _ _ e),c,n,hl,k _ (((s1.trans s2).kp a).trans (Kp.upd a H2 _)) aX⟩)
theorem GZ{i j:Int}(hv:Ev tv σ H (.int j))(ha:Ev ta σ H (.ref a))(e:H a=some (.ins C dx fs))(c:Cls K C)(n:cJ K C f)(hl:fs.length<1000)(lk:fs.lookup f=some (.int i))
  (k:∀H',Kp a H H'→H' a=some (.ins C dx (bK f (.int (i+j)) fs))→D.nx σ H'):Xc K ta tv ad4 f D σ H :=
 Ev.use ha fun H1 s1=>⟨a,C,dx,fs,.int i,rfl,s1 _ _ e,c,n,lk,Ev.use (hv.up s1) fun H2 s2=>⟨i,j,rfl,rfl,dx,fs,s2 _ _ (s1 _ _ e),hl,k _ (((s1.trans s2).kp a).trans (Kp.upd a H2 _)) aX⟩⟩
theorem Q3{d:Addr}{kvs:List (Key×V)}{n:Int}(hv:Ev tv σ H y)(ha:Ev ta σ H (.ref d))(hk:Ev ty σ H (.int n))(e:H d=some (.dK kvs))(hl:kvs.length<sizeLine)
  (k:∀H',Kp d H H'→H' d=some (.dK (putK kvs (Sum.inl n) y))→D.nx σ H'):aaM ta ty tv D σ H :=
 Ev.use hv fun H1 s1=>(Ev.use (ha.up s1) fun H2 s2=>(Ev.use (hk.up (s1.trans s2)) fun H3 s3 =>
  have s:=s1.trans (s2.trans s3)
  ⟨d,_,rfl,Xl.k (k:=Sum.inl n) (s _ _ e) hl,k _ ((s.kp d).trans (Kp.upd d H3 _)) aX⟩))
theorem Xe{R:V→Hp→Prop}{d:Addr}{kvs:List (Key×V)}{n:Int}(hv:EvP tv σ H R)(m:Q_ R)(ha:Ev ta σ H (.ref d))(hk:Ev ty σ H (.int n))(e:H d=some (.dK kvs))(hl:kvs.length<sizeLine)
  (k:∀y H1 H',aY H H1→R y H1→Kp d H1 H'→H' d=some (.dK (putK kvs (Sum.inl n) y))→D.nx σ H'):aaM ta ty tv D σ H :=
 EvP.use hv fun y H1 s1 r=>(Ev.use (ha.up s1) fun H2 s2=>(Ev.use (hk.up (s1.trans s2)) fun H3 s3 =>
  have s:=s1.trans (s2.trans s3)
  ⟨d,_,rfl,Xl.k (k:=Sum.inl n) (s _ _ e) hl,k y H1 _ s1 r (((s2.trans s3).kp d).trans (Kp.upd d H3 _)) aX⟩))
end
def gm{α:Type}(f:α→V):Nat→List α→List (Key×V)
 |_,[]=>[]
 |n,x::r=>(Sum.inl (n:Int),f x)::gm f (n+1) r
theorem xP{α:Type}(f:α→V):∀(n:Nat) (l:List α),(gm f n l).length=l.length
 |_,[]=>rfl
 |n,x::r=>by show(gm f (n+1) r).length+1=r.length+1;rw[xP f]
theorem uH{k j:Key}{v:V}{r:List (Key×V)}:kE ((k,v)::r) j=if k=j then some v else kE r j:=by
 unfold kE
 rw[List.find?_cons]
 by_cases h:k=j
 ·simp[h]
 ·simp[h]
theorem xO{α:Type}(f:α→V):∀(l:List α) (n:Nat) (i:Nat) (x:α),l[i]?=some x→kE (gm f n l) (Sum.inl ((n+i:Nat):Int))=some (f x)
 |[],n,i,x,h=>by simp at h
 |y::r,n,0,x,h=>by
  have e:y=x:=by simpa using h
  show kE ((Sum.inl (n:Int),f y)::_) _=_
  rw[uH,if_pos (by simp),e]
 |y::r,n,i+1,x,h=>by
  show kE ((Sum.inl (n:Int),f y)::_) _=_
  rw[uH,if_neg (by simp;omega)]
  have:=xO f r (n+1) i x (by simpa using h)
  rw[show n+(i+1)=n+1+i by omega]
  exact this
theorem Oq{α:Type}(f:α→V):∀(l:List α) (n:Nat) (z:Int),(z<n∨(n+l.length:Nat)≤z)→kE (gm f n l) (Sum.inl z)=none
 |[],n,z,_=>rfl
 |y::r,n,z,h=>by
  show kE ((Sum.inl (n:Int),f y)::_) _=_
  rw[List.length_cons]at h
  rw[uH,if_neg (by intro q;have:=Sum.inl.inj q;omega)]
  exact Oq f r (n+1) z (by omega)
theorem Tz{α:Type}(f:α→V):∀(l:List α) (n i:Nat) (x:α),(gm f n l).map (fun kv=>if kv.1=(Sum.inl ((n+i:Nat):Int):Key)then (kv.1,f x)else kv)=gm f n (l.set i x)
 |[],n,i,x=>rfl
 |y::r,n,0,x=>by
  show(if (Sum.inl (n:Int):Key)=Sum.inl ((n+0:Nat):Int)then _ else _)::(gm f (n+1) r).map _=(Sum.inl (n:Int),f x)::gm f (n+1) r
  rw[if_pos (by simp)]
  congr 1
  have h:∀(l:List α) (m:Nat),n<m→(gm f m l).map (fun kv=>if kv.1=(Sum.inl ((n+0:Nat):Int):Key)then (kv.1,f x)else kv)=gm f m l:=by
   intro l
   induction l with
   |nil=>intro m _;rfl
   |cons z l ih =>
    intro m hm
    show(if (Sum.inl (m:Int):Key)=Sum.inl ((n+0:Nat):Int)then _ else _)::(gm f (m+1) l).map _=(Sum.inl (m:Int),f z)::gm f (m+1) l
    rw[if_neg (by intro q;have:=Sum.inl.inj q;omega),ih (m+1) (by omega)]
  exact h r (n+1) (by omega)
 |y::r,n,i+1,x=>by
  show(if (Sum.inl (n:Int):Key)=Sum.inl ((n+(i+1):Nat):Int)then _ else _)::(gm f (n+1) r).map _=(Sum.inl (n:Int),f y)::gm f (n+1) (r.set i x)
  rw[if_neg (by intro q;have:=Sum.inl.inj q;omega)]
  congr 1
  have:=Tz f r (n+1) i x
  rw[show n+1+i=n+(i+1)by omega]at this
  exact this
theorem TF{α:Type}(f:α→V){l:List α}{n i:Nat}(x:α)(h:i<l.length):putK (gm f n l) (Sum.inl ((n+i:Nat):Int)) (f x)=gm f n (l.set i x):=by
 unfold putK
 rw[if_pos (by rw[Fq,xO f l n i l[i] (by simp[h])];rfl)]
 exact Tz f l n i x
theorem Ot{α:Type}(f:α→V):∀(l:List α) (n:Nat) (x:α),gm f n (l++[x])=gm f n l++[(Sum.inl ((n+l.length:Nat):Int),f x)]
 |[],n,x=>rfl
 |y::r,n,x=>by
  show(Sum.inl (n:Int),f y)::gm f (n+1) (r++[x])=(Sum.inl (n:Int),f y)::(gm f (n+1) r++_)
  rw[Ot f r (n+1) x,List.length_cons,show n+1+r.length=n+(r.length+1)by omega]
theorem Lr{α:Type}(f:α→V){l:List α}{n:Nat}(x:α):putK (gm f n l) (Sum.inl ((n+l.length:Nat):Int)) (f x)=gm f n (l++[x]):=by
 rw[S6 _ (Oq f l n _ (.inr (Int.le_refl _))),Ot]
theorem Bq{α:Type}(f:α→V):∀{l:List α} {i:Nat} {x y:α} (n:Nat),l[i]?=some x→f y=f x→gm f n (l.set i y)=gm f n l
 |[],i,x,y,n,h,_=>by simp at h
 |z::r,0,x,y,n,h,e=>by
  have h:z=x:=by simpa using h
  subst h
  show(Sum.inl (n:Int),f y)::gm f (n+1) r=(Sum.inl (n:Int),f z)::gm f (n+1) r
  rw[e]
 |z::r,i+1,x,y,n,h,e=>by
  show(Sum.inl (n:Int),f z)::gm f (n+1) (r.set i y)=(Sum.inl (n:Int),f z)::gm f (n+1) r
  rw[Bq f (n+1) (by simpa using h) e]
def qU(L:List (Addr×Vbbhaj.Job)):List (Key×V):=L.map fun p=>(Sum.inl (p.2.num:Int),V.ref p.1)
theorem zA{L:List (Addr×Vbbhaj.Job)}{p:Addr×Vbbhaj.Job}(hs:cV (L.map (·.2)))(hp:p∈L):kE (qU L) (Sum.inl (p.2.num:Int))=some (.ref p.1):=by
 induction L with
 |nil=>cases hp
 |cons q L ih =>
  show kE ((Sum.inl (q.2.num:Int),V.ref q.1)::qU L) _=_
  rw[uH]
  obtain⟨h1,h2⟩:=List.pairwise_cons.mp hs
  rcases List.mem_cons.mp hp with e|hp
  ·rw[e,if_pos rfl]
  ·rw[if_neg (by
    intro z
    have z:=Sum.inl.inj z
    have h3:q.2.num<p.2.num:=h1 p.2 (List.mem_map_of_mem (f:=(·.2)) hp)
    omega)]
   exact ih h2 hp
theorem Yd{L:List (Addr×Vbbhaj.Job)}{z:Int}(h:∀p∈L,(p.2.num:Int)≠z):kE (qU L) (Sum.inl z)=none:=by
 induction L with
 |nil=>rfl
 |cons q L ih =>
  show kE ((Sum.inl (q.2.num:Int),V.ref q.1)::qU L) _=_
  rw[uH,if_neg (fun z=>h q List.mem_cons_self (Sum.inl.inj z))]
  exact ih fun p hp=>h p (List.mem_cons_of_mem _ hp)
theorem Yg{L:List (Addr×Vbbhaj.Job)}{z:Int}:(kE (qU L) (Sum.inl z)).isSome=(t7 (L.map (·.2)) z).isSome:=by
 induction L with
 |nil=>rfl
 |cons q L ih =>
  show(kE ((Sum.inl (q.2.num:Int),V.ref q.1)::qU L) _).isSome=(List.find? _ (q.2::L.map (·.2))).isSome
  rw[uH,List.find?_cons]
  by_cases h:(q.2.num:Int)=z
  ·simp[h]
  ·rw[if_neg (fun e=>h (Sum.inl.inj e)),show((q.2.num:Int)==z)=false by simpa using h]
   exact ih
theorem QD{L:List (Addr×Vbbhaj.Job)}{z:Int}{j:Vbbhaj.Job}(h:t7 (L.map (·.2)) z=some j):∃a,(a,j)∈L∧(j.num:Int)=z:=by
 obtain⟨h1,h2⟩:=iI h
 obtain⟨p,hp,e⟩:=List.mem_map.mp h1
 exact⟨p.1,by rw[← e];exact hp,h2⟩
def yR:Vbbhaj.Status→Int
 |.waiting=>0
 |.running=>1
 |.ended (.code _)=>2
 |.ended (.abend _)=>3
 |.ended .flushed=>4
 |.ended .cancelled=>5
def JK:Vbbhaj.Status→Int
 |.ended (.code n)=>n
 |.ended (.abend n)=>n
 |_=>0
def tri(t:Vbbhaj.Test):Int×Int×Int:=(t.job,t.kind,t.n)
def pK(H:Hp)(l:Addr)(ts:List Vbbhaj.Test):Prop:=∃ps:List (Addr×Int×Int×Int),ps.map (·.2)=ts.map tri∧Bu H ps (.ref l)
def Je(H:Hp)(l:Addr)(b:Vbbhaj.Bytes):Prop:=H l=some (.lst (b.map fun c=>V.int c.toNat))
def jv(j:Vbbhaj.Job)(na ta:Addr):JV:=⟨j.num,na,j.cls,j.prio,j.held,ta,yR j.status,JK j.status,j.waited,j.passed,j.due⟩
section
variable {K:PySem.W.Frag}{mg:Str→Option Value}(T:Txt K mg)
def cT(H:Hp)(a:Addr)(j:Vbbhaj.Job):Prop:=∃dx na ta,H a=some (.ins T.gU dx (jv j na ta).fs)∧Je H na j.name∧pK H ta j.tests
def nJ(H:Hp)(a:Addr)(x:Vbbhaj.Init):Prop:=∃dx ca,H a=some (.ins T.bV dx (IV.mk x.on ca x.draining x.job).fs)∧H ca=some (.lst (x.classes.map fun c:Nat=>V.int c))
def TabAt(H:Hp)(p:Addr)(qual:Str):Prop:=∃ps:Array Value,H p=some (.tbl ps)∧TriplesOk ps.toList∧∀pos cv,codeAmong pos ps.toList=some cv→∃c,cv=.ref c∧H c=some (.ext fun h=>h.CodeRec (.ref c) qual)
def Jf(H:Hp):Prop:=TabAt H T.mQ "chosen_job.<locals>.<lambda>"∧TabAt H T.mR "tell_order.<locals>.<lambda>"
structure Ad where
 b:Addr
 dj:Addr
 dl:Addr
 dc:Addr
 di:Addr
 L:List (Addr×Vbbhaj.Job)
 I:List (Addr×Vbbhaj.Init)
def bv(A:Ad)(s:Vbbhaj.State):BV:=⟨s.cap,s.passes,s.aging,s.now,A.dj,(s.next:Int) - 1,(s.stamp:Int) - 1,A.dl,A.dc,A.di⟩
structure Rep(H:Hp)(A:Ad)(s:Vbbhaj.State):Prop where
 brd:∃dx,H A.b=some (.ins T.dR dx (bv A s).fs)
 jobs:H A.dj=some (.dK (qU A.L))
 lim:H A.dl=some (.dK (gm (fun c:Vbbhaj.Class=>V.int c.limit) 1 s.classes))
 clo:H A.dc=some (.dK (gm (fun c:Vbbhaj.Class=>V.bl c.closed) 1 s.classes))
 ini:H A.di=some (.dK (gm (fun p:Addr×Vbbhaj.Init=>V.ref p.1) 1 A.I))
 js:A.L.map (·.2)=s.jobs
 is:A.I.map (·.2)=s.inits
 job:∀p∈A.L,cT T H p.1 p.2
 int:∀p∈A.I,nJ T H p.1 p.2
 ndj:(A.L.map (·.1)).Nodup
 ndi:(A.I.map (·.1)).Nodup
 dd:A.dl≠A.dc∧A.dj≠A.dl∧A.dj≠A.dc∧A.di≠A.dl∧A.di≠A.dc∧A.dj≠A.di
 srt:cV s.jobs
 few:s.jobs.length≤500
 tabs:Jf T H
end
section
variable {K:PySem.W.Frag}{mg:Str→Option Value}{T:Txt K mg}{H H':Hp}{a a':Addr}{j:Vbbhaj.Job}{x:Vbbhaj.Init}{A:Ad}{s:Vbbhaj.State}
theorem pK.up'{l:Addr}{ts:List Vbbhaj.Test}(h:pK H l ts)(s1:∀p xs,H p=some (.lst xs)→H' p=some (.lst xs))(s2:∀p xs,H p=some (.tup xs)→H' p=some (.tup xs)):pK H' l ts :=
 let ⟨ps,e,l',e',h1,h2⟩:=h;⟨ps,e,l',e',s1 _ _ h1,fun p hp=>s2 _ _ (h2 p hp)⟩
theorem pK.up{l:Addr}{ts:List Vbbhaj.Test}(h:pK H l ts)(s:aY H H'):pK H' l ts:=h.up' (fun p xs e=>s _ _ e) fun p xs e=>s _ _ e
theorem cT.up(h:cT T H a j)(s:aY H H'):cT T H' a j:=let ⟨dx,na,ta,e,n,t⟩:=h;⟨dx,na,ta,s _ _ e,s _ _ n,t.up s⟩
theorem nJ.up(h:nJ T H a x)(s:aY H H'):nJ T H' a x:=let ⟨dx,ca,e,n⟩:=h;⟨dx,ca,s _ _ e,s _ _ n⟩
theorem TabAt.up{p:Addr}{q:Str}(h:TabAt H p q)(s:aY H H'):TabAt H' p q:=let ⟨ps,e,t,k⟩:=h;⟨ps,s _ _ e,t,fun pos cv z=>let ⟨c,e1,e2⟩:=k pos cv z;⟨c,e1,s _ _ e2⟩⟩
theorem Jf.up(h:Jf T H)(s:aY H H'):Jf T H':=⟨h.1.up s,h.2.up s⟩
theorem Rep.up(h:Rep T H A s)(q:aY H H'):Rep T H' A s :=
 ⟨let ⟨dx,e⟩:=h.brd;⟨dx,q _ _ e⟩,q _ _ h.jobs,q _ _ h.lim,q _ _ h.clo,q _ _ h.ini,h.js,h.is,fun p hp=>(h.job p hp).up q,fun p hp=>(h.int p hp).up q,h.ndj,h.ndi,h.dd,h.srt,h.few,h.tabs.up q⟩
def Wr(H:Hp)(a:Addr):Prop:=(∃C dx fs,H a=some (.ins C dx fs))∨∃kvs,H a=some (.dK kvs)
theorem Wr.lst(w:Wr H a){b:Addr}{xs:List V}(e:H b=some (.lst xs)):b≠a:=by
 rcases w with ⟨C,dx,fs,w⟩|⟨kvs,w⟩
 ·exact cB e w (by intro z;cases z)
 ·exact cB e w (by intro z;cases z)
theorem Wr.tup(w:Wr H a){b:Addr}{xs:List V}(e:H b=some (.tup xs)):b≠a:=by
 rcases w with ⟨C,dx,fs,w⟩|⟨kvs,w⟩
 ·exact cB e w (by intro z;cases z)
 ·exact cB e w (by intro z;cases z)
theorem Wr.no(w:Wr H a){b:Addr}{o:HO}(e:H b=some o)(n1:∀C dx fs,o≠.ins C dx fs)(n2:∀kvs,o≠.dK kvs):b≠a:=by
 rcases w with ⟨C,dx,fs,w⟩|⟨kvs,w⟩
 ·exact cB e w (n1 _ _ _)
 ·exact cB e w (n2 _)
theorem TabAt.kp{p:Addr}{q:Str}(h:TabAt H p q)(k:Kp a H H')(w:Wr H a):TabAt H' p q :=
 let ⟨ps,e,t,g⟩:=h
 ⟨ps,k _ _ e (w.no e (by intro _ _ _ z;cases z) (by intro _ z;cases z)),t,fun pos cv z=>let ⟨c,e1,e2⟩:=g pos cv z;⟨c,e1,k _ _ e2 (w.no e2 (by intro _ _ _ z;cases z) (by intro _ z;cases z))⟩⟩
theorem Jf.kp(h:Jf T H)(k:Kp a H H')(w:Wr H a):Jf T H':=⟨h.1.kp k w,h.2.kp k w⟩
theorem cT.kp(h:cT T H a' j)(k:Kp a H H')(w:Wr H a)(n:a'≠a):cT T H' a' j :=
 let ⟨dx,na,ta,e,m,t⟩:=h
 ⟨dx,na,ta,k _ _ e n,k _ _ m (w.lst m),t.up' (fun p xs q=>k _ _ q (w.lst q)) fun p xs q=>k _ _ q (w.tup q)⟩
theorem nJ.kp(h:nJ T H a' x)(k:Kp a H H')(w:Wr H a)(n:a'≠a):nJ T H' a' x :=
 let ⟨dx,ca,e,m⟩:=h
 ⟨dx,ca,k _ _ e n,k _ _ m (w.lst m)⟩
theorem Vc{C C' dx dx' b:Addr}{f g:Str}{v v':V}{fs fs':List (Str×V)}(h:H a=some (.ins C dx ((f,v)::fs)))(h':H b=some (.ins C' dx' ((g,v')::fs')))(n:(f==g)=false):a≠b :=
 cB h h' fun z=>by
  injection z with z1 z2 z3
  injection z3 with z4 z5
  injection z4 with z6 z7
  rw[z6,beq_self_eq_true]at n
  cases n
theorem cT.wr(h:cT T H a j):Wr H a:=let ⟨dx,na,ta,e,_⟩:=h;.inl ⟨_,_,_,e⟩
theorem nJ.wr(h:nJ T H a x):Wr H a:=let ⟨dx,ca,e,_⟩:=h;.inl ⟨_,_,_,e⟩
theorem J5(h:cT T H a j)(h':nJ T H a' x):a≠a':=by
 obtain⟨dx,na,ta,e,_⟩:=h
 obtain⟨dx',ca,e',_⟩:=h'
 exact Vc e e' Qu
theorem Rep.R0(h:Rep T H A s)(hj:cT T H a j):a≠A.b:=by
 obtain⟨dx,na,ta,e,_⟩:=hj
 obtain⟨dx',e'⟩:=h.brd
 exact Vc e e' Mx
theorem Rep.RZ(h:Rep T H A s)(hj:nJ T H a x):a≠A.b:=by
 obtain⟨dx,ca,e,_⟩:=hj
 obtain⟨dx',e'⟩:=h.brd
 exact Vc e e' Yn
theorem cP{C dx:Addr}{fs:List (Str×V)}{kvs:List (Key×V)}(h:H a=some (.ins C dx fs))(h':H a'=some (.dK kvs)):a'≠a:=cB h' h (by intro z;cases z)
theorem Rep.setJob(h:Rep T H A s){j j':Vbbhaj.Job}(hp:(a,j)∈A.L)(k:Kp a H H')(hj':cT T H' a j')(e:j'.num=j.num) :
  Rep T H' {A with L:=A.L.map fun p=>if p.2.num=j'.num then (p.1,j')else p} {s with jobs:=Vbbhaj.setJob s.jobs j'}:=by
 have hj:=h.job _ hp
 obtain⟨dx0,na,ta,e0,_,_⟩:=id hj
 have w:=hj.wr
 have srt:cV (A.L.map (·.2)):=by rw[h.js];exact h.srt
 have uniq:∀p∈A.L,p.2.num=j'.num→p=(a,j):=fun p hp' q=>by
  have q2:p.2=j:=srt.inj (List.mem_map_of_mem hp') (List.mem_map_of_mem hp) (by rw[q,e])
  obtain⟨b,i⟩:=p
  have q2:i=j:=q2
  subst q2
  have:∀(L:List (Addr×Vbbhaj.Job)),cV (L.map (·.2))→(b,i)∈L→(a,i)∈L→b=a:=by
   intro L
   induction L with
   |nil=>intro _ z;cases z
   |cons q L ih =>
    intro hs m1 m2
    obtain⟨h1,h2⟩:=List.pairwise_cons.mp hs
    rcases List.mem_cons.mp m1 with z1|z1
    ·rcases List.mem_cons.mp m2 with z2 | z2
     ·exact(Prod.mk.inj (z1.trans z2.symm)).1
     ·have:=h1 i (List.mem_map_of_mem (f:=(·.2)) z2)
      rw[← z1]at this
      exact absurd this (Nat.lt_irrefl _)
    ·rcases List.mem_cons.mp m2 with z2 | z2
     ·have:=h1 i (List.mem_map_of_mem (f:=(·.2)) z1)
      rw[← z2]at this
      exact absurd this (Nat.lt_irrefl _)
     ·exact ih h2 z1 z2
  rw[this _ srt hp' hp]
 have keepA:(A.L.map fun p=>if p.2.num=j'.num then (p.1,j')else p).map (·.1)=A.L.map (·.1):=by
  rw[List.map_map]
  exact List.map_congr_left fun p _=>by
   show(if p.2.num=j'.num then (p.1,j')else p).1=p.1
   split<;>rfl
 refine⟨?_,?_,k _ _ h.lim (cP e0 h.lim),k _ _ h.clo (cP e0 h.clo),k _ _ h.ini (cP e0 h.ini),?_,h.is,?_,fun p hp'=>(h.int p hp').kp k w (J5 hj (h.int p hp')).symm,by rw[keepA];exact h.ndj,h.ndi,h.dd,h.srt.vK (sJ _ _),by show(Vbbhaj.setJob s.jobs j').length≤500;unfold Vbbhaj.setJob;rw[List.length_map];exact h.few,h.tabs.kp k w⟩
 ·obtain⟨dx1,e1⟩:=h.brd
  exact⟨dx1,k _ _ e1 (h.R0 hj).symm⟩
 ·have e2:qU (A.L.map fun p=>if p.2.num=j'.num then (p.1,j')else p)=qU A.L:=by
   unfold qU
   rw[List.map_map]
   refine List.map_congr_left fun p _=>?_
   show((Sum.inl ((if p.2.num=j'.num then (p.1,j')else p).2.num:Int):Key),V.ref (if p.2.num=j'.num then (p.1,j')else p).1)=_
   split
   ·rename_i q
    rw[← q]
   ·rfl
  show H' A.dj=some (.dK (qU (A.L.map fun p=>if p.2.num=j'.num then (p.1,j')else p)))
  rw[e2]
  exact k _ _ h.jobs (cP e0 h.jobs)
 ·show(A.L.map fun p=>if p.2.num=j'.num then (p.1,j')else p).map (·.2)=Vbbhaj.setJob s.jobs j'
  rw[← h.js]
  unfold Vbbhaj.setJob
  rw[List.map_map,List.map_map]
  refine List.map_congr_left fun p _=>?_
  show(if p.2.num=j'.num then (p.1,j')else p).2=if p.2.num=j'.num then j' else p.2
  split<;>rfl
 ·intro p hp'
  obtain⟨q,hq,rfl⟩:=List.mem_map.mp hp'
  by_cases z:q.2.num=j'.num
  ·rw[if_pos z]
   rw[uniq q hq z]
   exact hj'
  ·rw[if_neg z]
   refine(h.job q hq).kp k w fun z2=>z ?_
   have:q=(a,j):=by
    obtain⟨i1,h1,e1⟩:=List.getElem_of_mem hq
    obtain⟨i2,h2,e2⟩:=List.getElem_of_mem hp
    have e3:(A.L.map (·.1))[i1]?=some a:=by rw[List.getElem?_map,List.getElem?_eq_getElem h1,e1,← z2];rfl
    have e4:(A.L.map (·.1))[i2]?=some a:=by rw[List.getElem?_map,List.getElem?_eq_getElem h2,e2];rfl
    have:=acu h.ndj e3 e4
    subst this
    rw[← e1,← e2]
   rw[this,e]
theorem Rep.setInt(h:Rep T H A s){i:Nat}{x x':Vbbhaj.Init}(hi:A.I[i]?=some (a,x))(k:Kp a H H')(hx':nJ T H' a x') :
  Rep T H' {A with I:=A.I.set i (a,x')} {s with inits:=s.inits.set i x'}:=by
 have hm:(a,x)∈A.I:=List.mem_of_getElem? hi
 have hx:=h.int _ hm
 obtain⟨dx0,ca,e0,_⟩:=id hx
 have w:=hx.wr
 have hil:i<A.I.length:=(List.getElem?_eq_some_iff.mp hi).1
 refine⟨?_,k _ _ h.jobs (cP e0 h.jobs),k _ _ h.lim (cP e0 h.lim),k _ _ h.clo (cP e0 h.clo),?_,h.js,?_,fun p hp=>(h.job p hp).kp k w (J5 (h.job p hp) hx),fun p hp=>?_,h.ndj,?_,h.dd,h.srt,h.few,h.tabs.kp k w⟩
 ·obtain⟨dx1,e1⟩:=h.brd
  exact⟨dx1,k _ _ e1 (h.RZ hx).symm⟩
 ·have e2:gm (fun p:Addr×Vbbhaj.Init=>V.ref p.1) 1 (A.I.set i (a,x'))=gm (fun p:Addr×Vbbhaj.Init=>V.ref p.1) 1 A.I:=Bq _ 1 hi rfl
  show H' A.di=some (.dK (gm (fun p:Addr×Vbbhaj.Init=>V.ref p.1) 1 (A.I.set i (a,x'))))
  rw[e2]
  exact k _ _ h.ini (cP e0 h.ini)
 ·show(A.I.set i (a,x')).map (·.2)=s.inits.set i x'
  rw[List.map_set,h.is]
 ·obtain⟨j,hj⟩:=List.mem_iff_getElem?.mp hp
  have hj:(A.I.set i (a,x'))[j]?=some p:=hj
  by_cases z:i=j
  ·subst z
   rw[List.getElem?_set_self hil]at hj
   cases hj
   exact hx'
  ·rw[List.getElem?_set_ne z]at hj
   refine(h.int p (List.mem_of_getElem? hj)).kp k w fun q=>z ?_
   exact acu h.ndi (x:=a) (by rw[List.getElem?_map,hi];rfl) (by rw[List.getElem?_map,hj,← q];rfl)
 ·show((A.I.set i (a,x')).map (·.1)).Nodup
  rw[List.map_set]
  have e3:(A.I.map (·.1)).set i a=A.I.map (·.1):=by
   have:(A.I.map (·.1))[i]?=some a:=by rw[List.getElem?_map,hi];rfl
   obtain⟨hlt,e⟩:=List.getElem?_eq_some_iff.mp this
   rw[← e,List.set_getElem_self]
  rw[e3]
  exact h.ndi
end
def Qg:HO→Bool
 |.lst _=>true
 |.tup _=>true
 |.frz _ _=>true
 |.ins _ _ ((f,_)::_)=>f==("calls" : Str)
 |_=>false
def Fix(H H':Hp):Prop:=∀b o,H b=some o→Qg o=true→H' b=some o
theorem Fix.refl(H:Hp):Fix H H:=fun _ _ h _=>h
theorem Fix.trans{H H1 H2:Hp}(a:Fix H H1)(b:Fix H1 H2):Fix H H2:=fun c o h f=>b c o (a c o h f) f
theorem _root_.L2.aY.fix{H H':Hp}(s:aY H H'):Fix H H':=fun b o h _=>s b o h
theorem Kp.fix{a:Addr}{H H':Hp}{o':HO}(k:Kp a H H')(e:H a=some o')(f:Qg o'=false):Fix H H':=fun b o h g=>k b o h fun z=>by
 subst z
 rw[e]at h
 cases h
 rw[f]at g
 cases g
theorem WD(j:JV)(C dx:Addr):Qg (.ins C dx j.fs)=false:=Ii
theorem abx(j:IV)(C dx:Addr):Qg (.ins C dx j.fs)=false:=Sh
theorem Iz(j:BV)(C dx:Addr):Qg (.ins C dx j.fs)=false:=Qt
theorem Wz(kvs:List (Key×V)):Qg (.dK kvs)=false:=rfl
def LQ(a:Vbbhaj.Ans):List Int:=a.num::a.rows.flatMap fun r=>(r.length:Int)::r.map Int.ofNat
def vO(a:Vbbhaj.Ans):List V:=(LQ a).map V.int
open Classical in
noncomputable def hid (X:Addr→Prop) (H:Hp):Hp:=fun b=>if X b then none else H b
section
variable {K:PySem.W.Frag}{mg:Str→Option Value}{T:Txt K mg}{X:Addr→Prop}{H H':Hp}{a b:Addr}{j:Vbbhaj.Job}{A:Ad}{s:Vbbhaj.State}{o:HO}
theorem bM(h:hid X H b=some o):¬X b∧H b=some o:=by
 unfold hid at h
 by_cases q:X b
 ·rw[if_pos q]at h;cases h
 ·rw[if_neg q]at h;exact⟨q,h⟩
theorem b_(q:¬X b):hid X H b=H b:=by unfold hid;rw[if_neg q]
theorem ZS:aY (hid X H) H:=fun b o h=>(bM h).2
theorem Eo(s:aY H H'):aY (hid X H) (hid X H'):=fun b o h=>by
 obtain⟨q,e⟩:=bM h
 rw[b_ q]
 exact s _ _ e
theorem Kp.hid(k:Kp a H H'):Kp a (hid X H) (hid X H'):=fun b o h n=>by
 obtain⟨q,e⟩:=bM h
 rw[b_ q]
 exact k _ _ e n
structure RX(T:Txt K mg)(X:Addr→Prop)(H:Hp)(A:Ad)(s:Vbbhaj.State):Prop where
 r:Rep T (hid X H) A s
 x:∀b,X b→H b≠none
theorem RX.rep(h:RX T X H A s):Rep T H A s:=h.r.up ZS
theorem RX.up(h:RX T X H A s)(q:aY H H'):RX T X H' A s:=⟨h.r.up (Eo q),fun b hb e=>h.x b hb (q.free e)⟩
theorem RX.keep(h:RX T X H A s)(k:Kp a H H')(na:¬X a):∀b,X b→H' b≠none:=fun b hb e=>by
 cases q:H b with
 |none=>exact h.x b hb q
 |some o =>
  rw[k b o q fun z=>na (z▸hb)]at e
  cases e
theorem RX.fresh(h:RX T X H A s)(e:H b=none):¬X b:=fun q=>h.x b q e
theorem RX.kpX(h:RX T X H A s)(ha:X a)(k:Kp a H H')(e:H' a≠none):RX T X H' A s:=by
 refine⟨h.r.up fun b o q=>?_,fun b hb z=>?_⟩
 ·obtain⟨n,q⟩:=bM q
  rw[b_ n]
  exact k _ _ q fun w=>n (w▸ha)
 ·by_cases w:b=a
  ·rw[w]at z;exact e z
  ·cases q:H b with
   |none=>exact h.x b hb q
   |some o=>rw[k b o q w]at z;cases z
theorem RX.more(h:RX T X H A s){l:Addr}(h0:H l=none){H1:Hp}(s1:aY H H1)(e:H1 l≠none):RX T (fun b=>X b∨b=l) H1 A s:=by
 refine⟨h.r.up fun b o q=>?_,fun b hb z=>?_⟩
 ·obtain⟨n,q⟩:=bM q
  rw[b_ (X:=fun b=>X b∨b=l) (by rintro(w | w);exact n w;rw[w,h0]at q;cases q)]
  exact s1 _ _ q
 ·rcases hb with hb | hb
  ·exact h.x b hb (s1.free z)
  ·rw[hb]at z;exact e z
theorem RX.less{Y:Addr→Prop}(h:RX T X H A s)(q:∀b,Y b→X b):RX T Y H A s:=by
 refine⟨h.r.up fun b o e=>?_,fun b hb=>h.x b (q b hb)⟩
 obtain⟨n,e⟩:=bM e
 rw[b_ fun z=>n (q b z)]
 exact e
end
end Jq
end
section
set_option Elab.async false
set_option linter.all false
set_option maxRecDepth 100000
set_option maxHeartbeats 1000000
namespace Jq
open PySem PySem.Spec PyProof.Rows L2
theorem d_(n lo hi:Int):Vbbhaj.inside n lo hi=(decide (lo≤n)&&decide (n≤hi)):=by
 unfold Vbbhaj.inside
 rw[Bool.eq_iff_iff]
 simp
section
variable {P:Program}{w:World}{K:PySem.W.Frag}{mg:Str→Option Value}{base:Heap}
abbrev GT:=List V→Hp→(V→Hp→Prop)→Prop
def gI(f:Int→Bool):GT:=fun vs _ R=>∃n,vs=[.int n]∧R=fun v _=>v=.bl (f n)
variable {σ:St}{H:Hp}{ta tb tc td:TE}{a:Addr}{j:Vbbhaj.Job}
theorem iY{f:Int→Bool}{n:Int}(ha:Ev ta σ H (.int n)):Ev (fH (ro (gI f)) [] E0 (bw ta eV)) σ H (.bl (f n)):=nQ (aB ha aV) fun H1 s=>⟨n,rfl,rfl⟩
theorem Yv(T:Txt K mg):bD P w K mg base CX0 1 T.w6.f T.w6.fd ["n"] (ro (gI fun n=>Vbbhaj.inside n 1 500)):=by
 refine cO T.w6.F YD (fun vs H R ⟨n,e,_⟩=>by rw[e];rfl) fun cdv A outer s H E hr=>⟨_,(az (aC (iC eX eX aH (pv 0) aH))),?_⟩
 rintro vs R ⟨n,rfl,rfl⟩
 exact aU ((gn aJ (aa rfl) aJ).cast (congrArg V.bl (d_ _ _ _).symm))
theorem abP(T:Txt K mg):bD P w K mg base CX0 1 T.Ge.f T.Ge.fd ["n"] (ro (gI fun n=>Vbbhaj.inside n 1 1000)):=by
 refine cO T.Ge.F ab3 (fun vs H R ⟨n,e,_⟩=>by rw[e];rfl) fun cdv A outer s H E hr=>⟨_,(az (aC (iC eX eX aH (pv 0) aH))),?_⟩
 rintro vs R ⟨n,rfl,rfl⟩
 exact aU ((gn aJ (aa rfl) aJ).cast (congrArg V.bl (d_ _ _ _).symm))
theorem abO(T:Txt K mg):bD P w K mg base CX0 1 T.Gd.f T.Gd.fd ["n"] (ro (gI fun n=>Vbbhaj.inside n 1 1000000)):=by
 refine cO T.Gd.F ab2 (fun vs H R ⟨n,e,_⟩=>by rw[e];rfl) fun cdv A outer s H E hr=>⟨_,(az (aC (iC eX eX aH (pv 0) aH))),?_⟩
 rintro vs R ⟨n,rfl,rfl⟩
 exact aU ((gn aJ (aa rfl) aJ).cast (congrArg V.bl (d_ _ _ _).symm))
theorem xx(T:Txt K mg):bD P w K mg base CX0 1 T.fZ.f T.fZ.fd ["n"] (ro (gI fun n=>Vbbhaj.inside n 1 999999)):=by
 refine cO T.fZ.F GR (fun vs H R ⟨n,e,_⟩=>by rw[e];rfl) fun cdv A outer s H E hr=>⟨_,(az (aC (iC eX eX aH (pv 0) (bz T.xW rfl)))),?_⟩
 rintro vs R ⟨n,rfl,rfl⟩
 exact aU ((gn aJ (aa rfl) aJ).cast (congrArg V.bl (d_ _ _ _).symm))
theorem lM(T:Txt K mg):bD P w K mg base CX0 1 T.fY.f T.fY.fd ["n"] (ro (gI fun n=>Vbbhaj.inside n 1 36)):=by
 refine cO T.fY.F Tf (fun vs H R ⟨n,e,_⟩=>by rw[e];rfl) fun cdv A outer s H E hr=>⟨_,(az (aC (iC eX eX aH (pv 0) (bz T.uh rfl)))),?_⟩
 rintro vs R ⟨n,rfl,rfl⟩
 exact aU ((gn aJ (aa rfl) aJ).cast (congrArg V.bl (d_ _ _ _).symm))
theorem zV(T:Txt K mg):bD P w K mg base CX0 1 T.iK.f T.iK.fd ["n"] (ro (gI fun n=>Vbbhaj.inside n 0 15)):=by
 refine cO T.iK.F K7 (fun vs H R ⟨n,e,_⟩=>by rw[e];rfl) fun cdv A outer s H E hr=>⟨_,(az (aC (iC eX eX aH (pv 0) aH))),?_⟩
 rintro vs R ⟨n,rfl,rfl⟩
 exact aU ((gn aJ (aa rfl) aJ).cast (congrArg V.bl (d_ _ _ _).symm))
theorem yN(T:Txt K mg):bD P w K mg base CX0 1 T.gJ.f T.gJ.fd ["n"] (ro (gI fun n=>Vbbhaj.inside n 0 1)):=by
 refine cO T.gJ.F Im (fun vs H R ⟨n,e,_⟩=>by rw[e];rfl) fun cdv A outer s H E hr=>⟨_,(az (aC (iC eX eX aH (pv 0) aH))),?_⟩
 rintro vs R ⟨n,rfl,rfl⟩
 exact aU ((gn aJ (aa rfl) aJ).cast (congrArg V.bl (d_ _ _ _).symm))
theorem Ko(T:Txt K mg):bD P w K mg base CX0 1 T.qM.f T.qM.fd ["n"] (ro (gI fun n=>Vbbhaj.inside n 0 4095)):=by
 refine cO T.qM.F V2 (fun vs H R ⟨n,e,_⟩=>by rw[e];rfl) fun cdv A outer s H E hr=>⟨_,(az (aC (iC eX eX aH (pv 0) aH))),?_⟩
 rintro vs R ⟨n,rfl,rfl⟩
 exact aU ((gn aJ (aa rfl) aJ).cast (congrArg V.bl (d_ _ _ _).symm))
theorem Sy(T:Txt K mg):bD P w K mg base CX0 1 T.qP.f T.qP.fd ["n"] (ro (gI fun n=>Vbbhaj.inside n 1 1000000)):=by
 refine cO T.qP.F Tj (fun vs H R ⟨n,e,_⟩=>by rw[e];rfl) fun cdv A outer s H E hr=>⟨_,(az (aC (iC eX eX aH (pv 0) aH))),?_⟩
 rintro vs R ⟨n,rfl,rfl⟩
 exact aU ((gn aJ (aa rfl) aJ).cast (congrArg V.bl (d_ _ _ _).symm))
theorem Sx(T:Txt K mg):bD P w K mg base CX0 1 T.qO.f T.qO.fd ["n"] (ro (gI fun n=>Vbbhaj.inside n 0 16)):=by
 refine cO T.qO.F Th (fun vs H R ⟨n,e,_⟩=>by rw[e];rfl) fun cdv A outer s H E hr=>⟨_,(az (aC (iC eX eX aH (pv 0) aH))),?_⟩
 rintro vs R ⟨n,rfl,rfl⟩
 exact aU ((gn aJ (aa rfl) aJ).cast (congrArg V.bl (d_ _ _ _).symm))
theorem n_(T:Txt K mg):bD P w K mg base CX0 1 T.dX.f T.dX.fd ["n"] (ro (gI fun n=>Vbbhaj.inside n 1 16)):=by
 refine cO T.dX.F Il (fun vs H R ⟨n,e,_⟩=>by rw[e];rfl) fun cdv A outer s H E hr=>⟨_,(az (aC (iC eX eX aH (pv 0) (bz T.lZ rfl)))),?_⟩
 rintro vs R ⟨n,rfl,rfl⟩
 exact aU ((gn aJ (aa rfl) aJ).cast (congrArg V.bl (d_ _ _ _).symm))
theorem Ey(T:Txt K mg):bD P w K mg base CX0 1 T.k_.f T.k_.fd ["byte"] (ro (gI fun n=>Vbbhaj.inside n 65 90)):=by
 refine cO T.k_.F QR (fun vs H R ⟨n,e,_⟩=>by rw[e];rfl) fun cdv A outer s H E hr=>⟨_,(az (aC (iC eX eX aH (pv 0) aH))),?_⟩
 rintro vs R ⟨n,rfl,rfl⟩
 exact aU ((gn aJ (aa rfl) aJ).cast (congrArg V.bl (d_ _ _ _).symm))
theorem Sw(T:Txt K mg):bD P w K mg base CX0 1 T.qN.f T.qN.fd ["byte"] (ro (gI fun n=>Vbbhaj.inside n 48 57)):=by
 refine cO T.qN.F Tg (fun vs H R ⟨n,e,_⟩=>by rw[e];rfl) fun cdv A outer s H E hr=>⟨_,(az (aC (iC eX eX aH (pv 0) aH))),?_⟩
 rintro vs R ⟨n,rfl,rfl⟩
 exact aU ((gn aJ (aa rfl) aJ).cast (congrArg V.bl (d_ _ _ _).symm))
def J0:GT:=fun vs H R=>∃l xs,vs=[.ref l]∧H l=some (.lst xs)∧xs.length<sizeLine∧R=IsL (.int xs.length::xs)
theorem gk(T:Txt K mg):bD P w K mg base CX0 1 T.dJ.f T.dJ.fd ["row"] (ro J0):=by
 refine cO T.dJ.F V1 (fun vs H R ⟨n,_,e,_⟩=>by rw[e];rfl) fun cdv A outer s H E hr=>⟨_,(az (aC (jw p_ (bc (aj (bR bB rfl T.jo fX (aj (pv 0) aq)) aq)) (pv 0)))),?_⟩
 rintro vs R ⟨l,xs,rfl,h,hz,rfl⟩
 have hv:EvL (cu 0) (start ["row"] [V.ref l]) H xs:=(aa rfl).toL h
 exact aU (mL (yd (aB (zy hv) aV) (by show 1≤sizeLine;decide)) hv (by show 1+xs.length≤sizeLine;omega))
theorem gM{xs:List V}(ha:EvL ta σ H xs)(hz:xs.length<sizeLine):EvL (fH (ro J0) [] E0 (bw ta eV)) σ H (.int xs.length::xs) :=
 P0 (acN ha W2 aV) fun vs H1 s ⟨v,e,l,e2,q⟩=>⟨l,xs,by rw[e,e2],q,hz,rfl⟩
theorem gC{T:Txt K mg}(ha:Ev ta σ H (.ref a))(h:cT T H a j):Ev (km K ta "number") σ H (.int j.num):=let ⟨dx,na,tt,e,_⟩:=h;bZ ha e T.bQ T.uv (JV.aaa _)
theorem nR{T:Txt K mg}(ha:Ev ta σ H (.ref a))(h:cT T H a j):Ev (km K ta "class_of") σ H (.int j.cls):=let ⟨dx,na,tt,e,_⟩:=h;bZ ha e T.bQ T.lA (JV.Ve _)
theorem BZ{T:Txt K mg}(ha:Ev ta σ H (.ref a))(h:cT T H a j):Ev (km K ta "priority") σ H (.int j.prio):=let ⟨dx,na,tt,e,_⟩:=h;bZ ha e T.bQ T.lB (JV.Vh _)
theorem Gj{T:Txt K mg}(ha:Ev ta σ H (.ref a))(h:cT T H a j):Ev (km K ta "held") σ H (.bl j.held):=let ⟨dx,na,tt,e,_⟩:=h;bZ ha e T.bQ T.oH (JV.ac_ _)
theorem jF{T:Txt K mg}(ha:Ev ta σ H (.ref a))(h:cT T H a j):Ev (km K ta "state") σ H (.int (yR j.status)):=let ⟨dx,na,tt,e,_⟩:=h;bZ ha e T.bQ T.lC (JV.abJ _)
theorem Nv{T:Txt K mg}(ha:Ev ta σ H (.ref a))(h:cT T H a j):Ev (km K ta "code") σ H (.int (JK j.status)):=let ⟨dx,na,tt,e,_⟩:=h;bZ ha e T.bQ T.uM (JV.ac9 _)
theorem Hu{T:Txt K mg}(ha:Ev ta σ H (.ref a))(h:cT T H a j):Ev (km K ta "waited") σ H (.int j.waited):=let ⟨dx,na,tt,e,_⟩:=h;bZ ha e T.bQ T.pP (JV.R3 _)
theorem xm{T:Txt K mg}(ha:Ev ta σ H (.ref a))(h:cT T H a j):Ev (km K ta "passed_over") σ H (.int j.passed):=let ⟨dx,na,tt,e,_⟩:=h;bZ ha e T.bQ T.eF (JV.Ca _)
theorem nT{T:Txt K mg}(ha:Ev ta σ H (.ref a))(h:cT T H a j):Ev (km K ta "due_turn") σ H (.int j.due):=let ⟨dx,na,tt,e,_⟩:=h;bZ ha e T.bQ T.gP (JV.Vf _)
theorem XQ{T:Txt K mg}(ha:Ev ta σ H (.ref a))(h:cT T H a j):EvL (km K ta "name") σ H (j.name.map fun c=>V.int c.toNat):=let ⟨dx,na,tt,e,n,_⟩:=h;(bZ ha e T.bQ T.uN (JV.Vg _)).toL n
theorem JS{T:Txt K mg}(ha:Ev ta σ H (.ref a))(h:cT T H a j):∃l,Ev (km K ta "tests") σ H (.ref l)∧pK H l j.tests:=let ⟨dx,na,tt,e,n,t⟩:=h;⟨tt,bZ ha e T.bQ T.iy (JV.IK _),t⟩
variable {x:Vbbhaj.Init}{A:Ad}{s:Vbbhaj.State}
theorem Iu{T:Txt K mg}(ha:Ev ta σ H (.ref a))(h:nJ T H a x):Ev (km K ta "on") σ H (.bl x.on):=let ⟨dx,ca,e,_⟩:=h;bZ ha e T.bC T.i_ (IV.aep _)
theorem BX{T:Txt K mg}(ha:Ev ta σ H (.ref a))(h:nJ T H a x):Ev (km K ta "draining") σ H (.bl x.draining):=let ⟨dx,ca,e,_⟩:=h;bZ ha e T.bC T.cH (IV.J9 _)
theorem mJ{T:Txt K mg}(ha:Ev ta σ H (.ref a))(h:nJ T H a x):Ev (km K ta "runs") σ H (.int x.job):=let ⟨dx,ca,e,_⟩:=h;bZ ha e T.bC T.fC (IV.adb _)
theorem yc{T:Txt K mg}(ha:Ev ta σ H (.ref a))(h:nJ T H a x):EvL (km K ta "classes") σ H (x.classes.map fun c:Nat=>V.int c):=let ⟨dx,ca,e,n⟩:=h;(bZ ha e T.bC T.du (IV.Yj _)).toL n
theorem Zv{T:Txt K mg}(ha:Ev ta σ H (.ref A.b))(h:Rep T H A s):Ev (km K ta "cap") σ H (.int s.cap):=let ⟨dx,e⟩:=h.brd;bZ ha e T.bN T.vJ (BV.adZ _)
theorem acR{T:Txt K mg}(ha:Ev ta σ H (.ref A.b))(h:Rep T H A s):Ev (km K ta "k") σ H (.int s.passes):=let ⟨dx,e⟩:=h.brd;bZ ha e T.bN T.Bj (BV.l_k _)
theorem acQ{T:Txt K mg}(ha:Ev ta σ H (.ref A.b))(h:Rep T H A s):Ev (km K ta "a") σ H (.int s.aging):=let ⟨dx,e⟩:=h.brd;bZ ha e T.bN T.uD (BV.l_a _)
theorem Nt{T:Txt K mg}(ha:Ev ta σ H (.ref A.b))(h:Rep T H A s):Ev (km K ta "time") σ H (.int s.now):=let ⟨dx,e⟩:=h.brd;bZ ha e T.bN T.pM (BV.aab _)
theorem cA{T:Txt K mg}(ha:Ev ta σ H (.ref A.b))(h:Rep T H A s):Ev (km K ta "jobs") σ H (.ref A.dj):=let ⟨dx,e⟩:=h.brd;bZ ha e T.bN T.ur (BV.ada _)
theorem xj{T:Txt K mg}(ha:Ev ta σ H (.ref A.b))(h:Rep T H A s):Ev (km K ta "last_number") σ H (.int ((s.next:Int) - 1)):=let ⟨dx,e⟩:=h.brd;bZ ha e T.bN T.gq (BV.Mv _)
theorem CN{T:Txt K mg}(ha:Ev ta σ H (.ref A.b))(h:Rep T H A s):Ev (km K ta "last_due_turn") σ H (.int ((s.stamp:Int) - 1)):=let ⟨dx,e⟩:=h.brd;bZ ha e T.bN T.fc (BV.yM _)
theorem zx{T:Txt K mg}(ha:Ev ta σ H (.ref A.b))(h:Rep T H A s):Ev (km K ta "limits") σ H (.ref A.dl):=let ⟨dx,e⟩:=h.brd;bZ ha e T.bN T.lz (BV.Z_ _)
theorem vI{T:Txt K mg}(ha:Ev ta σ H (.ref A.b))(h:Rep T H A s):Ev (km K ta "closed") σ H (.ref A.dc):=let ⟨dx,e⟩:=h.brd;bZ ha e T.bN T.lu (BV.Z9 _)
theorem bU{T:Txt K mg}(ha:Ev ta σ H (.ref A.b))(h:Rep T H A s):Ev (km K ta "initiators") σ H (.ref A.di):=let ⟨dx,e⟩:=h.brd;bZ ha e T.bN T.gO (BV.Qp _)
end
end Jq
end
section
set_option Elab.async false
set_option linter.all false
set_option maxRecDepth 100000
set_option maxHeartbeats 1000000
namespace Jq
open PySem PySem.Spec PyProof.Rows L2
section
variable {P:Program}{w:World}{K:PySem.W.Frag}{mg:Str→Option Value}{base:Heap}
variable {σ:St}{H:Hp}{ta tb tc td:TE}{a:Addr}{j:Vbbhaj.Job}{A:Ad}{s:Vbbhaj.State}{T:Txt K mg}
def X6(T:Txt K mg)(f:Vbbhaj.Job→V):GT:=fun vs H R=>∃a j,vs=[.ref a]∧cT T H a j∧R=fun v _=>v=f j
theorem n6{f:Vbbhaj.Job→V}(ha:Ev ta σ H (.ref a))(h:cT T H a j):Ev (fH (ro (X6 T f)) [] E0 (bw ta eV)) σ H (f j):=nQ (aB ha aV) fun H1 s=>⟨a,j,rfl,h.up s,rfl⟩
theorem Zt(j:Vbbhaj.Job):(!decide (yR j.status=0)&&!decide (yR j.status=1))=(endOf j).isSome:=by
 unfold endOf
 cases e:j.status with
 |waiting=>rfl
 |running=>rfl
 |ended z=>cases z<;>rfl
theorem ym(T:Txt K mg):bD P w K mg base CX0 1 T.jt.f T.jt.fd ["job"] (ro (X6 T fun j=>.bl (endOf j).isSome)):=by
 refine cO T.jt.F QQ (fun vs H R ⟨_,_,e,_⟩=>by rw[e];rfl) fun cdv A outer s H E hr=>⟨_,(az (aC (wB (fL ju (aD (K:=K) (pv 0) rfl) (bz T.l_ rfl) (aQ _)) (wC (fL ju (aD (K:=K) (pv 0) rfl) (bz T.nM rfl) (aQ _)))))),?_⟩
 rintro vs R ⟨a,j,rfl,h,rfl⟩
 have hv:Ev (cu 0) (start ["job"] [V.ref a]) H (.ref a):=aa rfl
 exact aU ((vU (fM (jF hv h) aJ) fun _=>fM (jF hv h) aJ).cast (by rw[Zt]))
theorem Y5{H:Hp}{l:Addr}{ts:List Vbbhaj.Test}(h:pK H l ts):∃xs,H l=some (.lst xs)∧xs.length=ts.length:=by
 obtain⟨ps,e,l',e',h1,_⟩:=h
 have e':l=l':=by injection e'
 subst e'
 refine⟨_,h1,?_⟩
 have:=congrArg List.length e
 rw[List.length_map,List.length_map]at this
 rw[List.length_map,this]
theorem aaK(j:Vbbhaj.Job):(decide (yR j.status=0)&&(!j.held&&decide ((j.tests.length:Int)=0)))=Vbbhaj.ready j:=by
 unfold Vbbhaj.ready Vbbhaj.isWaiting
 have e1:decide (yR j.status=0)=(j.status==.waiting):=by
  cases e:j.status with
  |waiting=>rfl
  |running=>rfl
  |ended z=>cases z<;>rfl
 have e2:decide ((j.tests.length:Int)=0)=j.tests.isEmpty:=by
  cases j.tests with
  |nil=>rfl
  |cons t r=>simp;omega
 rw[e1,e2]
theorem zW(T:Txt K mg):bD P w K mg base CX0 1 T.lg.f T.lg.fd ["job"] (ro (X6 T fun j=>.bl (Vbbhaj.ready j))):=by
 refine cO T.lg.F Ti (fun vs H R ⟨_,_,e,_⟩=>by rw[e];rfl) fun cdv A outer s H E hr=>⟨_,(az (aC (wB (fL dm (aD (K:=K) (pv 0) rfl) (bz T.l_ rfl) (aQ _)) (wB (aaC (aD (K:=K) (pv 0) rfl)) (wC (fL dm (bR bB rfl T.jo fX (aj (aD (K:=K) (pv 0) rfl) aq)) aH (aQ _))))))),?_⟩
 rintro vs R ⟨a,j,rfl,h,rfl⟩
 have hv:Ev (cu 0) (start ["job"] [V.ref a]) H (.ref a):=aa rfl
 obtain⟨l,hl,ht⟩:=JS hv h
 obtain⟨xs,hx,hlen⟩:=Y5 ht
 exact aU ((vU (bY (jF hv h) aJ) fun _=>vU (ZC (Gj hv h)) fun _=>bY (zy (hl.toL hx)) aJ).cast (by rw[hlen,aaK]))
theorem uE(T:Txt K mg):bD P w K mg base CX0 1 T.kZ.f T.kZ.fd ["job"] (ro (X6 T fun j=>.bl (decide (j.due≠0)))):=by
 refine cO T.kZ.F YF (fun vs H R ⟨_,_,e,_⟩=>by rw[e];rfl) fun cdv A outer s H E hr=>⟨_,(az (aC (fL ju (aD (K:=K) (pv 0) rfl) aH (aQ _)))),?_⟩
 rintro vs R ⟨a,j,rfl,h,rfl⟩
 exact aU ((fM (nT (aa rfl) h) aJ).cast (by congr 1;rw[Bool.eq_iff_iff];simp))
def rk(n:Int)(j:Vbbhaj.Job):Int:=if (15:Int)<(j.prio:Int)+(j.waited:Int) / n then 15 else (j.prio:Int)+(j.waited:Int) / n
theorem QK(s:Vbbhaj.State)(j:Vbbhaj.Job):rk s.aging j=(Vbbhaj.rank s j:Int):=by
 unfold rk Vbbhaj.rank
 have e:((j.waited:Int) / (s.aging:Int))=((j.waited / s.aging:Nat):Int):=by simp
 rw[e]
 generalize j.waited / s.aging=q
 split<;>omega
def acn(T:Txt K mg):GT:=fun vs H R=>∃a j n,vs=[.ref a,.int n]∧cT T H a j∧(1≤n∧n≤1000000)∧R=fun v _=>v=.int (rk n j)
theorem Di(T:Txt K mg):bD P w K mg base CX0 1 T.pF.f T.pF.fd ["job","a"] (ro (acn T)):=by
 refine cO T.pF.F V5 (fun vs H R ⟨_,_,_,e,_⟩=>by rw[e];rfl) fun cdv A outer s H E hr=>⟨_,(az (aC (bR (XD rfl) rfl T.T7 Ue (aj (jw z9 (aD (K:=K) (pv 0) rfl) (jw Qz (aD (K:=K) (pv 0) rfl) (pv 1))) (aj (bz T.tD rfl) aq))))),?_⟩
 rintro vs R ⟨a,j,n,rfl,h,hn,rfl⟩
 have hv:Ev (cu 0) (start ["job","a"] [V.ref a,.int n]) H (.ref a):=aa rfl
 exact aU (abv (eY (BZ hv h) (Iw (Hu hv h) (aa rfl) ⟨by omega,by omega⟩)) aJ)
theorem CP{n:Int}(ha:Ev ta σ H (.ref a))(h:cT T H a j)(hb:Ev tb σ H (.int n))(hn:1≤n∧n≤1000000):Ev (fH (ro (acn T)) [] E0 (bw ta (bw tb eV))) σ H (.int (rk n j)) :=
 nQ (aB ha (aB hb aV)) fun H1 s=>⟨a,j,n,rfl,h.up s,hn,rfl⟩
def zz(k n st c:Int):Bool:=if decide (k=0)=true then true else if decide (k=1)=true then (decide (st=2)&&decide (c≤n))else if decide (k=2)=true then (decide (st=3)||(decide (st=2)&&decide (n<c)))else (decide (k=3)&&decide (st=3))
def adT:GT:=fun vs H R=>∃k n st c,vs=[.int k,.int n,.int st,.int c]∧R=fun v _=>v=.bl (zz k n st c)
theorem Yw(T:Txt K mg):bD P w K mg base CX0 1 T.xf.f T.xf.fd ["kind","n","state","code"] (ro adT):=by
 refine cO T.xf.F YG (fun vs H R ⟨_,_,_,_,e,_⟩=>by rw[e];rfl) fun cdv A outer s H E hr=>⟨_,(ak (a_ (aR dm (pv 0) (bz T.sZ rfl) (aQ _)) (az (aC lN)) aL)
   (ak (a_ (aR dm (pv 0) (bz T.kJ rfl) (aQ _)) (az (aC (wB (fL dm (pv 2) (bz T.ik rfl) (aQ _)) (wC (fL eX (pv 3) (pv 1) (aQ _)))))) aL)
   (ak (a_ (aR dm (pv 0) (bz T.gw rfl) (aQ _)) (az (aC (acw (fL dm (pv 2) (bz T.iV rfl) (aQ _)) (wC (wB (fL dm (pv 2) (bz T.ik rfl) (aQ _)) (wC (fL aap (pv 3) (pv 1) (aQ _)))))))) aL)
   (az (aC (wB (fL dm (pv 0) (bz T.vP rfl) (aQ _)) (wC (fL dm (pv 2) (bz T.iV rfl) (aQ _))))))))),?_⟩
 rintro vs R ⟨k,n,st,c,rfl,rfl⟩
 have e0:Ev (cu 0) (start ["kind","n","state","code"] [V.int k,.int n,.int st,.int c]) H (.int k):=aa rfl
 have e1:Ev (cu 1) (start ["kind","n","state","code"] [V.int k,.int n,.int st,.int c]) H (.int n):=aa rfl
 have e2:Ev (cu 2) (start ["kind","n","state","code"] [V.int k,.int n,.int st,.int c]) H (.int st):=aa rfl
 have e3:Ev (cu 3) (start ["kind","n","state","code"] [V.int k,.int n,.int st,.int c]) H (.int c):=aa rfl
 refine d7 (aP (bY e0 aJ)) (fun h=>aU (aJ.cast (by unfold zz;rw[if_pos h]))) fun h0=>?_
 refine d7 (aP (bY e0 aJ)) (fun h=>aU ((vU (bY e2 aJ) fun _=>eY e3 e1).cast (by unfold zz;rw[h0,if_neg Bool.false_ne_true,if_pos h]))) fun h1=>?_
 refine d7 (aP (bY e0 aJ)) (fun h=>aU ((ach (bY e2 aJ) fun _=>vU (bY e2 aJ) fun _=>eY e3 e1).cast (by unfold zz;rw[h0,if_neg Bool.false_ne_true,h1,if_neg Bool.false_ne_true,if_pos h]))) fun h2=>?_
 exact aU ((vU (bY e0 aJ) fun _=>bY e2 aJ).cast (by unfold zz;rw[h0,if_neg Bool.false_ne_true,h1,if_neg Bool.false_ne_true,h2,if_neg Bool.false_ne_true]))
theorem VV(j:Vbbhaj.Job):decide (yR j.status=1)=Vbbhaj.isRunning j:=by
 unfold Vbbhaj.isRunning
 cases e:j.status with
 |waiting=>rfl
 |running=>rfl
 |ended z=>cases z<;>rfl
theorem DW(j:Vbbhaj.Job):decide (yR j.status=0)=Vbbhaj.isWaiting j:=by
 unfold Vbbhaj.isWaiting
 cases e:j.status with
 |waiting=>rfl
 |running=>rfl
 |ended z=>cases z<;>rfl
def refs(L:List (Addr×Vbbhaj.Job)):List V:=L.map fun p=>V.ref p.1
theorem Gn(L:List (Addr×Vbbhaj.Job)):(qU L).map (·.1)=(L.map fun p=>(p.2.num:Int)).map (Sum.inl:Int→Key):=by
 unfold qU
 rw[List.map_map,List.map_map]
 rfl
theorem NZ{L:List (Addr×Vbbhaj.Job)}(h:cV (L.map (·.2))):(L.map fun p=>(p.2.num:Int)).Pairwise (·<·):=by
 have h:=(List.pairwise_map.mp h)
 exact List.pairwise_map.mpr (h.imp fun x=>by omega)
theorem Rep.Mw(h:Rep T H A s):cV (A.L.map (·.2)):=by rw[h.js];exact h.srt
theorem Rep.Qq(h:Rep T H A s):A.L.length≤500:=by have:=h.few;rw[← h.js,List.length_map]at this;exact this
theorem eZ{n:Nat}(h:n≤500):n≤sizeLine:=Nat.le_trans h (by decide)
def X7(T:Txt K mg)(p:Vbbhaj.Job→Bool):GT:=fun vs H R=>∃A s,vs=[.ref A.b]∧Rep T H A s∧R=IsL (refs (A.L.filter fun q=>p q.2))
theorem uq{p:Vbbhaj.Job→Bool}(ha:Ev ta σ H (.ref A.b))(h:Rep T H A s):EvL (fH (ro (X7 T p)) [] E0 (bw ta eV)) σ H (refs (A.L.filter fun q=>p q.2)) :=
 nQ (aB ha aV) fun H1 s1=>⟨A,s,rfl,h.up s1,rfl⟩
theorem pH(T:Txt K mg):bD P w K mg base CX0 1 T.gH.f T.gH.fd ["board"] (ro (X7 T fun _=>true)):=by
 refine cO T.gH.F Aa (fun vs H R ⟨_,_,e,_⟩=>by rw[e];rfl) fun cdv A outer s H E hr=>?_
 have hu:=d9 hr
 refine⟨_,(az (aC (ue (own:=[("number",1)]) rfl Aa.nd (cY (bR (xZ rfl) rfl T.vD wR (aj (aD (K:=K) (pv 0) rfl) aq))) (cF (by show qI ["board","number"] (aA vN) _ _=true;decide +kernel)) (fun _ _ _ _ _=>(bL (i:=1) Aa.nd rfl (Or.inl rfl))) (fun _ _ _ _ _=>yp) (fun _ _ _ _ _=>(cM (by exact hu) (aD (K:=K) (pv 0) rfl) (pv 1) (fun _ _=>rfl)))))),?_⟩
 rintro vs R ⟨A,s,rfl,h,rfl⟩
 exact aU (jY (K:=K) (k:=1) (ys:=A.L) (fun p=>V.int p.2.num) (fun _=>true) (fun p=>V.ref p.1) ((RJ (ta:=km K (cu 0) "jobs") (cA (aa rfl) h) h.jobs (Gn _) (NZ h.Mw)).cast (by rw[List.map_map];rfl))
  (eZ h.Qq) (fun y hy=>PX) (fun y hy _=>fK (cA (aa rfl) h) (aa rfl) h.jobs (zA h.Mw hy)))
theorem filter_true'(L:List (Addr×Vbbhaj.Job)):(L.filter fun _=>true)=L:=by simp
theorem Gi(ha:Ev ta σ H (.ref A.b))(h:Rep T H A s):EvL (fH (ro (X7 T fun _=>true)) [] E0 (bw ta eV)) σ H (refs A.L):=(uq ha h).cast (by rw[filter_true'])
theorem oh(T:Txt K mg):bD P w K mg base CX0 2 T.dZ.f T.dZ.fd ["board"] (ro (X7 T Vbbhaj.isRunning)):=by
 refine cO T.dZ.F tV (fun vs H R ⟨_,_,e,_⟩=>by rw[e];rfl) fun cdv A outer s H E hr=>?_
 refine⟨_,(az (aC (ue (own:=[("job",1)]) rfl tV.nd (cY (aK T.gH (pH T) (by exact hr.mono (by decide)) rfl (aj (pv 0) aq))) (cF (by show qI ["board","job"] (aA oA) _ _=true;decide +kernel)) (fun _ _ _ _ _=>(bL (i:=1) tV.nd rfl (Or.inl rfl))) (fun _ _ _ _ _=>(jK (aR dm (aD (K:=K) (pv 1) rfl) (bz T.nM rfl) (aQ _)))) (fun _ _ _ _ _=>(pv 1))))),?_⟩
 rintro vs R ⟨A,s,rfl,h,rfl⟩
 refine aU (jY (K:=K) (k:=1) (ys:=A.L) (fun p=>V.ref p.1) (fun p=>Vbbhaj.isRunning p.2) (fun p=>V.ref p.1) (Gi (aa rfl) h) (eZ h.Qq) (fun y hy=>aP ((bY (jF (aa rfl) (h.job y hy)) aJ).cast ?_)) (fun y hy _=>aa rfl))
 rw[VV]
theorem yO(T:Txt K mg):bD P w K mg base CX0 2 T.gK.f T.gK.fd ["board"] (ro (X7 T Vbbhaj.isWaiting)):=by
 refine cO T.gK.F tW (fun vs H R ⟨_,_,e,_⟩=>by rw[e];rfl) fun cdv A outer s H E hr=>?_
 refine⟨_,(az (aC (ue (own:=[("job",1)]) rfl tW.nd (cY (aK T.gH (pH T) (by exact hr.mono (by decide)) rfl (aj (pv 0) aq))) (cF (by show qI ["board","job"] (aA oE) _ _=true;decide +kernel)) (fun _ _ _ _ _=>(bL (i:=1) tW.nd rfl (Or.inl rfl))) (fun _ _ _ _ _=>(jK (aR dm (aD (K:=K) (pv 1) rfl) (bz T.l_ rfl) (aQ _)))) (fun _ _ _ _ _=>(pv 1))))),?_⟩
 rintro vs R ⟨A,s,rfl,h,rfl⟩
 refine aU (jY (K:=K) (k:=1) (ys:=A.L) (fun p=>V.ref p.1) (fun p=>Vbbhaj.isWaiting p.2) (fun p=>V.ref p.1) (Gi (aa rfl) h) (eZ h.Qq) (fun y hy=>aP ((bY (jF (aa rfl) (h.job y hy)) aJ).cast ?_)) (fun y hy _=>aa rfl))
 rw[DW]
theorem Ci(T:Txt K mg):bD P w K mg base CX0 2 T.jC.f T.jC.fd ["board"] (ro (X7 T Vbbhaj.ready)):=by
 refine cO T.jC.F wD (fun vs H R ⟨_,_,e,_⟩=>by rw[e];rfl) fun cdv A outer s H E hr=>?_
 refine⟨_,(az (aC (ue (own:=[("job",1)]) rfl wD.nd (cY (aK T.gH (pH T) (by exact hr.mono (by decide)) rfl (aj (pv 0) aq))) (cF (by show qI ["board","job"] (aA su) _ _=true;decide +kernel)) (fun _ _ _ _ _=>(bL (i:=1) wD.nd rfl (Or.inl rfl))) (fun _ _ _ _ _=>(jK (bJ (aK T.lg (zW T) (by exact hr.mono (by decide)) rfl (aj (pv 1) aq))))) (fun _ _ _ _ _=>(pv 1))))),?_⟩
 rintro vs R ⟨A,s,rfl,h,rfl⟩
 exact aU (jY (K:=K) (k:=1) (ys:=A.L) (fun p=>V.ref p.1) (fun p=>Vbbhaj.ready p.2) (fun p=>V.ref p.1) (Gi (aa rfl) h) (eZ h.Qq) (fun y hy=>fB (n6 (aa rfl) (h.job y hy))) (fun y hy _=>aa rfl))
def Cq(T:Txt K mg)(H:Hp)(L:List (Addr×Vbbhaj.Job)):Prop:=∀p∈L,cT T H p.1 p.2
theorem Cq.up{L:List (Addr×Vbbhaj.Job)}{H':Hp}(h:Cq T H L)(s:aY H H'):Cq T H' L:=fun p hp=>(h p hp).up s
def ZJ(T:Txt K mg):GT:=fun vs H R=>∃l L c,vs=[.ref l,.int c]∧H l=some (.lst (refs L))∧Cq T H L∧L.length≤500∧R=fun v _=>v=.int ((L.filter fun p=>decide ((p.2.cls:Int)=c)).length:Nat)
theorem iz(T:Txt K mg):bD P w K mg base CX0 1 T.cz.f T.cz.fd ["jobs","class_of"] (ro (ZJ T)):=by
 refine cO T.cz.F lQ (fun vs H R ⟨_,_,_,e,_⟩=>by rw[e];rfl) fun cdv A outer s H E hr=>?_
 refine⟨_,(az (aC (bR bB rfl T.jo fX (aj (ue (own:=[("job",2)]) rfl lQ.nd (cY (pv 0)) (cF (by show qI ["jobs","class_of","job"] (aA iD) _ _=true;decide +kernel)) (fun _ _ _ _ _=>(bL (i:=2) lQ.nd rfl (Or.inl rfl))) (fun _ _ _ _ _=>(jK (aR dm (aD (K:=K) (pv 2) rfl) (pv 1) (aQ _)))) (fun _ _ _ _ _=>(pv 2))) aq)))),?_⟩
 rintro vs R ⟨l,L,c,rfl,hl,hj,hz,rfl⟩
 have e0:EvL (cu 0) (start ["jobs","class_of","job"] [V.ref l,.int c]) H (refs L):=(aa rfl).toL hl
 refine aU ((zy (jY (K:=K) (k:=2) (ys:=L) (fun p=>V.ref p.1) (fun p=>decide ((p.2.cls:Int)=c)) (fun p=>V.ref p.1) e0 (eZ hz) (fun y hy=>aP (bY (nR (aa rfl) (hj y hy)) (aa rfl))) (fun y hy _=>aa rfl))).cast ?_)
 rw[List.length_map]
theorem Ei{L:List (Addr×Vbbhaj.Job)}{c:Int}(ha:EvL ta σ H (refs L))(hj:Cq T H L)(hz:L.length≤500)(hb:Ev tb σ H (.int c)) :
  Ev (fH (ro (ZJ T)) [] E0 (bw ta (bw tb eV))) σ H (.int ((L.filter fun p=>decide ((p.2.cls:Int)=c)).length:Nat)) :=
 P0 (acN ha W2 (aB hb aV)) fun vs H1 s1 ⟨v,e,l,e2,q⟩=>⟨l,L,c,by rw[e,e2],q,hj.up s1,hz,rfl⟩
def fO(s:Vbbhaj.State)(n:Int):Int:=if Vbbhaj.isNum n=false then -1 else if (Vbbhaj.jobAt s n).isSome=true then 0 else -4
def WN(T:Txt K mg):GT:=fun vs H R=>∃A s n,vs=[.ref A.b,.int n]∧Rep T H A s∧R=fun v _=>v=.int (fO s n)
theorem Rep.isSome(h:Rep T H A s)(n:Int):(kE (qU A.L) (Sum.inl n)).isSome=(Vbbhaj.jobAt s n).isSome:=by rw[Yg,h.js];rfl
theorem iB(T:Txt K mg):bD P w K mg base CX0 2 T.cQ.f T.cQ.fd ["board","number"] (ro (WN T)):=by
 refine cO T.cQ.F Fj (fun vs H R ⟨_,_,_,e,_⟩=>by rw[e];rfl) fun cdv A outer s H E hr=>?_
 have hu:=d9 hr
 refine⟨_,(ak (a_ (cD (bJ (aK T.fZ (xx T) (by exact hr.mono (by decide)) rfl (aj (pv 1) aq)))) (az (aC (bz T.bH rfl))) aL)
   (ak (a_ (aaG (N5 (by exact hu) (pv 1) (aD (K:=K) (pv 0) rfl))) (az (aC (bz T.Eg rfl))) aL)
   (az (aC (bz T.aW rfl))))),?_⟩
 rintro vs R ⟨A,s,n,rfl,h,rfl⟩
 have e0:Ev (cu 0) (start ["board","number"] [V.ref A.b,.int n]) H (.ref A.b):=aa rfl
 have e1:Ev (cu 1) (start ["board","number"] [V.ref A.b,.int n]) H (.int n):=aa rfl
 refine d7 (cC (fB (iY e1))) (fun q=>aU (aJ.cast ?_)) fun q=>?_
 ·unfold fO Vbbhaj.isNum
  rw[if_pos (by simpa using q)]
 refine d7 (fB (Nu e1 (cA e0 h) h.jobs)) (fun q2=>aU (aJ.cast ?_)) fun q2=>aU (aJ.cast ?_)
 ·unfold fO Vbbhaj.isNum
  rw[if_neg (by simpa using q),← h.isSome,if_neg (by simpa using q2)]
 ·unfold fO Vbbhaj.isNum
  rw[if_neg (by simpa using q),← h.isSome,if_pos (by simpa using q2)]
theorem xn{n:Int}(ha:Ev ta σ H (.ref A.b))(hb:Ev tb σ H (.int n))(h:Rep T H A s):Ev (fH (ro (WN T)) [] E0 (bw ta (bw tb eV))) σ H (.int (fO s n)) :=
 nQ (aB ha (aB hb aV)) fun H1 s1=>⟨A,s,n,rfl,h.up s1,rfl⟩
end
end Jq
end
section
set_option Elab.async false
set_option linter.all false
set_option maxRecDepth 100000
set_option maxHeartbeats 1000000
namespace Jq
open PySem PySem.Spec PyProof.Rows L2
section
variable {t ta:TE}{tt:TT}{ts tu tr:TS}{σ:St}{H H':Hp}{R R1:V→Hp→Prop}{b:Bool}
theorem pL{i:Nat}{v:V}(h:Ev t σ H v)(h2:EvS tr (σ.set i (some v)) H R):EvS (nH (Wd t (uK i)) tr) σ H R:=CK h fun v' H1 s e=>by subst e;exact h2.up s
end
theorem z8{s:Vbbhaj.State}{n:Int}{f:Vbbhaj.Job→Vbbhaj.State×Vbbhaj.Ans}(h:fO s n≠0):Vbbhaj.onJob s n f=(s,{num:=fO s n}):=by
 unfold fO at h ⊢
 unfold Vbbhaj.onJob
 by_cases h1:Vbbhaj.isNum n=false
 ·rw[if_pos h1,if_pos h1];rfl
 ·rw[if_neg h1,if_neg h1]
  rw[if_neg h1]at h
  cases e:Vbbhaj.jobAt s n with
  |none=>rfl
  |some j=>rw[e]at h;exact absurd rfl h
theorem rJ{s:Vbbhaj.State}{n:Int}(h:fO s n=0):∃j,Vbbhaj.jobAt s n=some j∧∀f:Vbbhaj.Job→Vbbhaj.State×Vbbhaj.Ans,Vbbhaj.onJob s n f=f j:=by
 unfold fO at h
 by_cases h1:Vbbhaj.isNum n=false
 ·rw[if_pos h1]at h;exact absurd h (by decide)
 ·rw[if_neg h1]at h
  cases e:Vbbhaj.jobAt s n with
  |none=>rw[e]at h;exact absurd h (by decide)
  |some j =>
   refine⟨j,rfl,fun f=>?_⟩
   unfold Vbbhaj.onJob
   rw[if_neg h1,e]
theorem jr{b:Bool}(q:(!b)=true):b=false:=by simpa using q
theorem nU{b:Bool}(q:(!b)=false):b=true:=by simpa using q
theorem nF{b:Bool}(q:b=true):¬b=false:=by rw[q];simp
theorem Nf{s:Vbbhaj.State}{n:Int}(q:Vbbhaj.isClass n=false):Vbbhaj.step s (.class_ n)=Vbbhaj.no s 1:=if_pos q
theorem Lp{s:Vbbhaj.State}{n:Int}(q:Vbbhaj.isClass n=true):Vbbhaj.step s (.class_ n)=Vbbhaj.yes s (Vbbhaj.classAt s n.toNat).limit [[(Vbbhaj.classAt s n.toNat).closed.toNat,Vbbhaj.runningIn s n.toNat,(s.jobs.filter fun j=>Vbbhaj.isWaiting j&&j.cls==n.toNat).length]]:=if_neg (nF q)
theorem Tu{s:Vbbhaj.State}{n:Int}(q:Vbbhaj.isInit n=false):Vbbhaj.step s (.initiator n)=Vbbhaj.no s 1:=if_pos q
theorem Q5{s:Vbbhaj.State}{n:Int}(q:Vbbhaj.isInit n=true):Vbbhaj.step s (.initiator n)=Vbbhaj.yes s (Vbbhaj.initAt s n).on.toNat [(Vbbhaj.initAt s n).classes,[(Vbbhaj.initAt s n).draining.toNat,(Vbbhaj.initAt s n).job]]:=if_neg (nF q)
theorem Zb(n:Int):vO {num:=n}=[.int n]:=rfl
def pI(r:List Nat):List V:=r.map fun n:Nat=>V.int n
theorem QL(r:List Nat):(r.map Int.ofNat).map V.int=pI r:=by unfold pI;rw[List.map_map];rfl
theorem jk(r:List Nat):(pI r).length=r.length:=by unfold pI;rw[List.length_map]
theorem Jg(n:Int)(r:List Nat):vO {num:=n,rows:=[r]}=.int n::.int r.length::pI r:=by
 show V.int n::((((r.length:Int)::r.map Int.ofNat)++[]).map V.int)=_
 rw[List.append_nil,List.map_cons,QL]
theorem acb(n:Int)(r q:List Nat):vO {num:=n,rows:=[r,q]}=.int n::.int r.length::(pI r++(.int q.length::pI q)):=by
 show V.int n::((((r.length:Int)::r.map Int.ofNat)++(((q.length:Int)::q.map Int.ofNat)++[])).map V.int)=_
 rw[List.append_nil,List.map_append,List.map_cons,List.map_cons,QL,QL]
 rfl
section
variable {P:Program}{w:World}{K:PySem.W.Frag}{mg:Str→Option Value}{base:Heap}
variable {σ:St}{H:Hp}{ta tb tc td:TE}{a:Addr}{j:Vbbhaj.Job}{A:Ad}{s:Vbbhaj.State}{T:Txt K mg}
theorem Rep.pair(h:Rep T H A s){n:Int}{j:Vbbhaj.Job}(e:Vbbhaj.jobAt s n=some j):∃a,(a,j)∈A.L∧(j.num:Int)=n:=QD (z:=n) (by rw[h.js];exact e)
theorem Rep.get(h:Rep T H A s){n:Int}(ha:Ev ta σ H (.ref A.dj))(hb:Ev tb σ H (.int n))(m:(a,j)∈A.L)(e:(j.num:Int)=n):Ev (aaZ ta tb) σ H (.ref a):=by
 have:=zA h.Mw m
 exact fK ha hb h.jobs (by rw[← e];exact this)
def gQ1(T:Txt K mg)(mk:Int→Vbbhaj.Call):GT:=fun vs H R=>∃A s n,vs=[.ref A.b,.int n]∧Rep T H A s∧Inv s∧R=IsL (vO (Vbbhaj.step s (mk n)).2)
def gQ0(T:Txt K mg)(c:Vbbhaj.Call):GT:=fun vs H R=>∃A s,vs=[.ref A.b]∧Rep T H A s∧Inv s∧R=IsL (vO (Vbbhaj.step s c).2)
theorem J_{L:List (Addr×Vbbhaj.Job)}{l:List Vbbhaj.Job}(e:L.map (·.2)=l)(p:Vbbhaj.Job→Bool):(L.filter fun q=>p q.2).length=(l.filter p).length:=by
 rw[← e,List.filter_map,List.length_map]
 rfl
theorem sI{n:Nat}(h:n≤100000):n≤sizeLine:=Nat.le_trans h (by decide)
theorem iw{n:Nat}(h:n≤100000):n<sizeLine:=Nat.lt_of_le_of_lt h (by decide)
theorem adx{x:V}:([x]:List V).length≤sizeLine:=by show 1≤sizeLine;decide
theorem aZ{n:Int}(h:Ev ta σ H (.int n)):EvL (aa3 (bw ta eV)) σ H [.int n]:=yd (aB h aV) adx
theorem mK{xs:List V}{n:Nat}(ha:EvL ta σ H xs)(e:xs.length=n):Ev (tCB (fun xs H Q=>∃p ys,xs=[.ref p]∧(SqL K H p ys∨SqT K H p ys)∧Q (.int ys.length) H) (bw ta eV)) σ H (.int n):=(zy ha).cast (by rw[e])
theorem Ks(T:Txt K mg):bD P w K mg base CX0 3 T.jV.f T.jV.fd ["board"] (ro (gQ0 T .counts)):=by
 refine cO T.jV.F La (fun vs H R ⟨_,_,e,_⟩=>by rw[e];rfl) fun cdv A outer s H E hr=>?_
 refine⟨_,(az (aC (jw p_ (bc (aj (bR Nq rfl T.jo fX (aj (aD (K:=K) (pv 0) rfl) aq)) aq)) (aK T.dJ (gk T) (by exact hr.mono (by decide)) rfl (aj (bc (aj (bR bB rfl T.jo fX (aj (aK T.gK (yO T) (by exact hr.mono (by decide)) rfl (aj (pv 0) aq)) aq)) (aj (bR bB rfl T.jo fX (aj (aK T.jC (Ci T) (by exact hr.mono (by decide)) rfl (aj (pv 0) aq)) aq)) (aj (bR bB rfl T.jo fX (aj (aK T.dZ (oh T) (by exact hr.mono (by decide)) rfl (aj (pv 0) aq)) aq)) aq)))) aq))))),?_⟩
 rintro vs R ⟨A,s,rfl,h,iv,rfl⟩
 have e0:Ev (cu 0) (start ["board"] [V.ref A.b]) H (.ref A.b):=aa rfl
 have n1:∀p:Vbbhaj.Job→Bool,(refs (A.L.filter fun q=>p q.2)).length=(s.jobs.filter p).length:=fun p=>by unfold refs;rw[List.length_map,J_ h.js]
 refine aU ((mL (aZ ((Ww (cA e0 h) h.jobs).cast (w:=.int s.jobs.length) (by rw[← h.js];unfold qU;rw[List.length_map,List.length_map]))) (gM (yd (aB (mK (uq e0 h) (n1 _)) (aB (mK (uq e0 h) (n1 _)) (aB (mK (uq e0 h) (n1 _)) aV))) ?_) ?_) ?_).cast ?_)
 ·show 3≤sizeLine;decide
 ·show 3<sizeLine;decide
 ·show 1+4≤sizeLine;decide
 ·exact(Jg (s.jobs.length:Nat) [(s.jobs.filter Vbbhaj.isWaiting).length,(s.jobs.filter Vbbhaj.ready).length,(s.jobs.filter Vbbhaj.isRunning).length]).symm
theorem qT{s:Vbbhaj.State}(g:Good s){c:Int}(h:Vbbhaj.isClass c=true):s.classes[c.toNat - 1]?=some (Vbbhaj.classAt s c.toNat)∧((1+(c.toNat - 1):Nat):Int)=c:=by
 have:=bI.mp h
 unfold Vbbhaj.classAt
 rw[List.getD_eq_getElem?_getD,List.getElem?_eq_getElem (by rw[g.CZ];omega)]
 refine⟨rfl,by omega⟩
theorem Rep.limit(h:Rep T H A s)(g:Good s){c:Int}(hc:Vbbhaj.isClass c=true):kE (gm (fun c:Vbbhaj.Class=>V.int c.limit) 1 s.classes) (Sum.inl c)=some (.int (Vbbhaj.classAt s c.toNat).limit):=by
 obtain⟨e1,e2⟩:=qT g hc
 have:=xO (fun c:Vbbhaj.Class=>V.int c.limit) s.classes 1 _ _ e1
 rw[e2]at this
 exact this
theorem Rep.closed(h:Rep T H A s)(g:Good s){c:Int}(hc:Vbbhaj.isClass c=true):kE (gm (fun c:Vbbhaj.Class=>V.bl c.closed) 1 s.classes) (Sum.inl c)=some (.bl (Vbbhaj.classAt s c.toNat).closed):=by
 obtain⟨e1,e2⟩:=qT g hc
 have:=xO (fun c:Vbbhaj.Class=>V.bl c.closed) s.classes 1 _ _ e1
 rw[e2]at this
 exact this
theorem PL{L:List (Addr×Vbbhaj.Job)}{l:List Vbbhaj.Job}(e:L.map (·.2)=l)(p:Vbbhaj.Job→Bool){c:Int}(hc:Vbbhaj.isClass c=true):((L.filter fun q=>p q.2).filter fun q=>decide ((q.2.cls:Int)=c)).length=(l.filter fun j=>p j&&j.cls==c.toNat).length:=by
 have:=bI.mp hc
 rw[List.filter_filter,← e,List.filter_map,List.length_map]
 congr 1
 refine List.filter_congr fun q _=>?_
 show(decide ((q.2.cls:Int)=c)&&p q.2)=(p q.2&&q.2.cls==c.toNat)
 rw[Bool.and_comm]
 congr 1
 rw[Bool.eq_iff_iff]
 simp
 omega
theorem Rep.vW(h:Rep T H A s)(p:Vbbhaj.Job→Bool):Cq T H (A.L.filter fun q=>p q.2):=fun q hq=>h.job q (List.mem_filter.mp hq).1
theorem Rep.JW(h:Rep T H A s)(p:Vbbhaj.Job→Bool):(A.L.filter fun q=>p q.2).length≤500:=Nat.le_trans (List.length_filter_le ..) h.Qq
theorem MK(T:Txt K mg):bD P w K mg base CX0 3 T.mG.f T.mG.fd ["board","class_of"] (ro (gQ1 T .class_)):=by
 refine cO T.mG.F wF (fun vs H R ⟨_,_,_,e,_⟩=>by rw[e];rfl) fun cdv A outer s H E hr=>?_
 have hu:=d9 hr
 refine⟨_,(ak (a_ (cD (bJ (aK T.fY (lM T) (by exact hr.mono (by decide)) rfl (aj (pv 1) aq)))) (az (aC (bc (aj (bz T.bH rfl) aq)))) aL)
   (ak (bu (i:=2) wF.nd rfl (Or.inl rfl) (aK T.cz (iz T) (by exact hr.mono (by decide)) rfl (aj (aK T.dZ (oh T) (by exact hr.mono (by decide)) rfl (aj (pv 0) aq)) (aj (pv 1) aq))))
   (ak (bu (i:=3) wF.nd rfl (Or.inl rfl) (aK T.cz (iz T) (by exact hr.mono (by decide)) rfl (aj (aK T.gK (yO T) (by exact hr.mono (by decide)) rfl (aj (pv 0) aq)) (aj (pv 1) aq))))
   (az (aC (jw p_ (bc (aj (cM (by exact hu) (aD (K:=K) (pv 0) rfl) (pv 1) (fun _ _=>rfl)) aq)) (aK T.dJ (gk T) (by exact hr.mono (by decide)) rfl (aj (bc (aj (mV Aw rfl T.OJ O8 (aj (cM (by exact hu) (aD (K:=K) (pv 0) rfl) (pv 1) (fun _ _=>rfl)) aq)) (aj (pv 2) (aj (pv 3) aq)))) aq)))))))),?_⟩
 rintro vs R ⟨A,s,n,rfl,h,iv,rfl⟩
 have e0:Ev (cu 0) (start ["board","class_of","running","waiting"] [V.ref A.b,.int n]) H (.ref A.b):=aa rfl
 have e1:Ev (cu 1) (start ["board","class_of","running","waiting"] [V.ref A.b,.int n]) H (.int n):=aa rfl
 refine d7 (cC (fB (iY e1))) (fun q=>aU ((aZ aJ).cast ?_)) fun q=>?_
 ·have q:Vbbhaj.isClass n=false:=jr q
  rw[Nf q];rfl
 have q:Vbbhaj.isClass n=true:=nU q
 refine pL ((Ei (uq e0 h) (h.vW _) (h.JW _) e1).cast (w:=.int (Vbbhaj.runningIn s n.toNat)) (by rw[PL h.js _ q];rfl)) ?_
 have f0:Ev (cu 0) ((start ["board","class_of","running","waiting"] [V.ref A.b,.int n]).set 2 (some (.int (Vbbhaj.runningIn s n.toNat)))) H (.ref A.b):=aa rfl
 have f1:Ev (cu 1) ((start ["board","class_of","running","waiting"] [V.ref A.b,.int n]).set 2 (some (.int (Vbbhaj.runningIn s n.toNat)))) H (.int n):=aa rfl
 refine pL ((Ei (uq f0 h) (h.vW _) (h.JW _) f1).cast (w:=.int ((s.jobs.filter fun j=>Vbbhaj.isWaiting j&&j.cls==n.toNat).length:Nat)) (by rw[PL h.js _ q])) ?_
 refine aU ((mL (aZ (fK (zx (aa rfl) h) (aa rfl) h.lim (h.limit iv.g q))) (gM (yd (aB (Iv (fK (vI (aa rfl) h) (aa rfl) h.clo (h.closed iv.g q))) (aB (aa rfl) (aB (aa rfl) aV))) ?_) ?_) ?_).cast ?_)
 ·show 3≤sizeLine;decide
 ·show 3<sizeLine;decide
 ·show 1+4≤sizeLine;decide
 ·rw[Lp q]
  refine Eq.trans ?_ (Jg ((Vbbhaj.classAt s n.toNat).limit:Nat) _).symm
  cases (Vbbhaj.classAt s n.toNat).closed<;>rfl
theorem iZ(h:Rep T H A s)(g:Good s){c:Int}(hc:Vbbhaj.isInit c=true):∃a,A.I[c.toNat - 1]?=some (a,Vbbhaj.initAt s c)∧kE (gm (fun p:Addr×Vbbhaj.Init=>V.ref p.1) 1 A.I) (Sum.inl c)=some (.ref a)∧nJ T H a (Vbbhaj.initAt s c):=by
 have hi:=bI.mp hc
 have e1:=lq g hc
 rw[← h.is,List.getElem?_map]at e1
 cases e:A.I[c.toNat - 1]? with
 |none=>rw[e]at e1;cases e1
 |some p =>
  rw[e]at e1
  have e1:p.2=Vbbhaj.initAt s c:=Option.some.inj e1
  have e2:=xO (fun p:Addr×Vbbhaj.Init=>V.ref p.1) A.I 1 _ _ e
  rw[show((1+(c.toNat - 1):Nat):Int)=c by omega]at e2
  have e3:=h.int p (List.mem_of_getElem? e)
  rw[e1]at e3
  exact⟨p.1,by rw[← e1],e2,e3⟩
theorem Ho{s:Vbbhaj.State}(iv:Inv s){c:Int}(hc:Vbbhaj.isInit c=true):(Vbbhaj.initAt s c).classes.length≤8:=by
 have hm:=jG iv.g hc
 cases e:(Vbbhaj.initAt s c).on with
 |false=>rw[iv.i.off _ hm e];exact Nat.zero_le _
 |true =>
  have:=iv.i.cls _ hm e
  unfold Vbbhaj.areClasses at this
  simp only[Bool.and_eq_true,decide_eq_true_eq,List.length_map]at this
  exact this.1.2
theorem Ez(T:Txt K mg):bD P w K mg base CX0 2 T.gG.f T.gG.fd ["board","number"] (ro (gQ1 T .initiator)):=by
 refine cO T.gG.F vL (fun vs H R ⟨_,_,_,e,_⟩=>by rw[e];rfl) fun cdv A outer s H E hr=>?_
 have hu:=d9 hr
 refine⟨_,(ak (a_ (cD (bJ (aK T.dX (n_ T) (by exact hr.mono (by decide)) rfl (aj (pv 1) aq)))) (az (aC (bc (aj (bz T.bH rfl) aq)))) aL)
   (ak (bu (i:=2) vL.nd rfl (Or.inl rfl) (cM (by exact hu) (aD (K:=K) (pv 0) rfl) (pv 1) (fun _ _=>rfl)))
   (az (aC (jw p_ (jw p_ (bc (aj (mV Aw rfl T.OJ O8 (aj (aD (K:=K) (pv 2) rfl) aq)) aq)) (aK T.dJ (gk T) (by exact hr.mono (by decide)) rfl (aj (aD (K:=K) (pv 2) rfl) aq))) (aK T.dJ (gk T) (by exact hr.mono (by decide)) rfl (aj (bc (aj (mV Aw rfl T.OJ O8 (aj (aD (K:=K) (pv 2) rfl) aq)) (aj (aD (K:=K) (pv 2) rfl) aq))) aq))))))),?_⟩
 rintro vs R ⟨A,s,n,rfl,h,iv,rfl⟩
 have e0:Ev (cu 0) (start ["board","number","initiator"] [V.ref A.b,.int n]) H (.ref A.b):=aa rfl
 have e1:Ev (cu 1) (start ["board","number","initiator"] [V.ref A.b,.int n]) H (.int n):=aa rfl
 refine d7 (cC (fB (iY e1))) (fun q=>aU ((aZ aJ).cast ?_)) fun q=>?_
 ·have q:Vbbhaj.isInit n=false:=jr q
  rw[Tu q];rfl
 have q:Vbbhaj.isInit n=true:=nU q
 obtain⟨a,i1,i2,i3⟩:=iZ h iv.g q
 refine pL (fK (bU e0 h) e1 h.ini i2) ?_
 have few:=Ho iv q
 have v2:Ev (cu 2) ((start ["board","number","initiator"] [V.ref A.b,.int n]).set 2 (some (.ref a))) H (.ref a):=aa rfl
 refine aU ((mL (mL (aZ (Iv (Iu v2 i3))) (gM (yc v2 i3) ?_) ?_) (gM (yd (aB (Iv (BX v2 i3)) (aB (mJ v2 i3) aV)) ?_) ?_) ?_).cast ?_)
 ·rw[List.length_map];exact Nat.lt_of_le_of_lt few (by decide)
 ·show 1+((List.map _ _).length+1)≤sizeLine
  rw[List.length_map]
  exact Nat.le_trans (show 1+((Vbbhaj.initAt s n).classes.length+1)≤500 by omega) (by decide)
 ·show 2≤sizeLine;decide
 ·show 2<sizeLine;decide
 ·refine eZ ?_
  simp only[List.length_append,List.length_cons,List.length_nil,List.length_map]
  omega
 ·rw[Q5 q]
  refine Eq.trans ?_ (acb ((Vbbhaj.initAt s n).on.toNat:Nat) _ _).symm
  rw[List.length_map]
  cases (Vbbhaj.initAt s n).on<;>cases (Vbbhaj.initAt s n).draining<;>rfl
def ZL(T:Txt K mg):GT:=fun vs H R=>∃A s a j,vs=[.ref A.b,.ref a]∧Rep T H A s∧cT T H a j∧R=fun v _=>v=.int (Vbbhaj.duePlace s j)
theorem Dh(T:Txt K mg):bD P w K mg base CX0 2 T.fW.f T.fW.fd ["board","job"] (ro (ZL T)):=by
 refine cO T.fW.F o7 (fun vs H R ⟨_,_,_,_,e,_⟩=>by rw[e];rfl) fun cdv A outer s H E hr=>?_
 refine⟨_,(ak (a_ (cD (bJ (aK T.kZ (uE T) (by exact hr.mono (by decide)) rfl (aj (pv 1) aq)))) (az (aC aH)) aL)
   (az (aC (bR bB rfl T.jo fX (aj (ue (own:=[("other",2)]) rfl o7.nd (cY (aK T.gH (pH T) (by exact hr.mono (by decide)) rfl (aj (pv 0) aq))) (cF (by show qI ["board","job","other"] (aA jM) _ _=true;decide +kernel)) (fun _ _ _ _ _=>(bL (i:=2) o7.nd rfl (Or.inl rfl))) (fun _ _ _ _ _=>(jK (PW.pt (KD (bJ (aK T.kZ (uE T) (by exact hr.mono (by decide)) rfl (aj (pv 2) aq))) (Fe (aR eX (aD (K:=K) (pv 2) rfl) (aD (K:=K) (pv 1) rfl) (aQ _))))))) (fun _ _ _ _ _=>(pv 2))) aq))))),?_⟩
 rintro vs R ⟨A,s,a,j,rfl,h,hj,rfl⟩
 refine d7 (cC (fB (n6 (aa rfl) hj))) (fun q=>aU (aJ.cast ?_)) fun q=>?_
 ·have q:decide (j.due≠0)=false:=jr q
  unfold Vbbhaj.duePlace
  rw[if_pos (by simpa using q)]
  rfl
 have q:decide (j.due≠0)=true:=nU q
 refine aU ((zy (jY (K:=K) (k:=2) (ys:=A.L) (fun p=>V.ref p.1) (fun p=>decide (p.2.due≠0)&&decide ((p.2.due:Int)≤(j.due:Int))) (fun p=>V.ref p.1) (Gi (aa rfl) h) (eZ h.Qq)
  (fun y hy=>JR (fB (n6 (aa rfl) (h.job y hy))) fun _=>aP (eY (nT (aa rfl) (h.job y hy)) (nT (aa rfl) hj))) (fun y hy _=>aa rfl))).cast ?_)
 unfold Vbbhaj.duePlace
 rw[if_neg (by simpa using q),List.length_map,J_ h.js (fun k=>decide (k.due≠0)&&decide ((k.due:Int)≤(j.due:Int)))]
 congr 3
 refine List.filter_congr fun k _=>?_
 rw[Bool.eq_iff_iff]
 simp
 omega
theorem ZD(ha:Ev ta σ H (.ref A.b))(hb:Ev tb σ H (.ref a))(h:Rep T H A s)(hj:cT T H a j):Ev (fH (ro (ZL T)) [] E0 (bw ta (bw tb eV))) σ H (.int (Vbbhaj.duePlace s j)) :=
 nQ (aB ha (aB hb aV)) fun H1 s1=>⟨A,s,a,j,rfl,h.up s1,hj.up s1,rfl⟩
theorem u_{s:Vbbhaj.State}{n:Int}:decide (fO s n=0)=false↔fO s n≠0:=by simp
theorem Sd{s:Vbbhaj.State}(g:Good s){j:Vbbhaj.Job}(h:j∈s.jobs):j.name.length≤8:=by
 have:=(g.ok j h).name
 unfold Vbbhaj.isName at this
 cases e:j.name with
 |nil=>exact Nat.zero_le _
 |cons c r =>
  rw[e]at this
  simp only[Bool.and_eq_true,decide_eq_true_eq]at this
  exact this.1
theorem Ku(T:Txt K mg):bD P w K mg base CX0 3 T.jW.f T.jW.fd ["board","number"] (ro (gQ1 T .status)):=by
 refine cO T.jW.F qx (fun vs H R ⟨_,_,_,e,_⟩=>by rw[e];rfl) fun cdv A outer s H E hr=>?_
 have hu:=d9 hr
 refine⟨_,(ak (bu (i:=2) qx.nd rfl (Or.inl rfl) (aK T.cQ (iB T) (by exact hr.mono (by decide)) rfl (aj (pv 0) (aj (pv 1) aq))))
   (ak (a_ (aR ju (pv 2) (bz T.aW rfl) (aQ _)) (az (aC (bc (aj (pv 2) aq)))) aL)
   (ak (bu (i:=3) qx.nd rfl (Or.inl rfl) (cM (by exact hu) (aD (K:=K) (pv 0) rfl) (pv 1) (fun _ _=>rfl)))
   (ak (bu (i:=4) qx.nd rfl (Or.inl rfl) (bc (aj (aD (K:=K) (pv 3) rfl) (aj (aD (K:=K) (pv 3) rfl) (aj (aD (K:=K) (pv 3) rfl) (aj (aD (K:=K) (pv 3) rfl) (aj (aK T.pF (Di T) (by exact hr.mono (by decide)) rfl (aj (pv 3) (aj (aD (K:=K) (pv 0) rfl) aq))) (aj (mV Aw rfl T.OJ O8 (aj (aD (K:=K) (pv 3) rfl) aq)) (aj (aD (K:=K) (pv 3) rfl) (aj (aD (K:=K) (pv 3) rfl) (aj (aK T.fW (Dh T) (by exact hr.mono (by decide)) rfl (aj (pv 0) (aj (pv 3) aq))) aq)))))))))))
   (az (aC (jw p_ (jw p_ (bc (aj aH aq)) (aK T.dJ (gk T) (by exact hr.mono (by decide)) rfl (aj (aD (K:=K) (pv 3) rfl) aq))) (aK T.dJ (gk T) (by exact hr.mono (by decide)) rfl (aj (pv 4) aq))))))))),?_⟩
 rintro vs R ⟨A,s,n,rfl,h,iv,rfl⟩
 refine pL (xn (aa rfl) (aa rfl) h) ?_
 refine d7 (aP (fM (aa rfl) aJ)) (fun q=>aU ((aZ (aa rfl)).cast ?_)) fun q=>?_
 ·have q:=u_.mp (jr q)
  exact((congrArg (fun x=>vO x.2) (z8 q)).trans (Zb _)).symm
 have q:fO s n=0:=by simpa using q
 obtain⟨j,hj,hf⟩:=rJ q
 obtain⟨a,m,e⟩:=h.pair hj
 have ja:=h.job _ m
 have mj:j∈s.jobs:=by rw[← h.js];exact List.mem_map_of_mem (f:=(·.2)) m
 refine pL (h.get (cA (aa rfl) h) (aa rfl) m e) ?_
 have nf:=Sd iv.g mj
 refine CK (yd (aB (jF (aa rfl) ja) (aB (Nv (aa rfl) ja) (aB (nR (aa rfl) ja) (aB (BZ (aa rfl) ja) (aB (CP (aa rfl) ja (acQ (aa rfl) h) ⟨by have:=iv.g.aging.1;omega,by have:=iv.g.aging.2;omega⟩)
  (aB (Iv (Gj (aa rfl) ja)) (aB (Hu (aa rfl) ja) (aB (xm (aa rfl) ja) (aB (ZD (aa rfl) (aa rfl) h ja) aV))))))))) ?_) ?_
 ·show 9≤sizeLine;decide
 rintro v H1 s1 ⟨l,rfl,hl⟩
 refine aU ((mL (mL (aZ aJ) (gM (XQ (aa rfl) (ja.up s1)) ?_) ?_) (gM ((aa rfl).toL hl) ?_) ?_).cast ?_)
 ·rw[List.length_map];exact Nat.lt_of_le_of_lt nf (by decide)
 ·refine eZ ?_
  simp only[List.length_append,List.length_cons,List.length_nil,List.length_map]
  omega
 ·show 9<sizeLine;decide
 ·refine eZ ?_
  simp only[List.length_append,List.length_cons,List.length_nil,List.length_map]
  omega
 ·have e2:Vbbhaj.step s (.status n)=_:=hf _
  rw[e2]
  refine Eq.trans ?_ (acb (0:Nat) _ _).symm
  rw[List.length_map,QK]
  have e3:pI (j.name.map UInt8.toNat)=j.name.map fun c=>V.int c.toNat:=by unfold pI;rw[List.map_map];rfl
  rw[e3,List.length_map]
  unfold Vbbhaj.stateOf
  cases hs:j.status with
  |waiting=>cases j.held<;>rfl
  |running=>cases j.held<;>rfl
  |ended z=>cases z<;>cases j.held<;>rfl
def ZK:GT:=fun vs H R=>∃l ps n,vs=[.ref l,.int n]∧Bu H ps (.ref l)∧ps.length≤500∧R=fun v _=>v=.bl (ps.any fun p=>decide (p.2.1=n))
theorem Qx(T:Txt K mg):bD P w K mg base CX0 1 T.pB.f T.pB.fd ["tests","number"] (ro ZK):=by
 refine cO T.pB.F yr (fun vs H R ⟨_,_,_,e,_⟩=>by rw[e];rfl) fun cdv A outer s H E hr=>?_
 refine⟨_,(az (aC (bR (acM rfl) rfl T.abe acJ (aj (ue (own:=[("test",2)]) rfl yr.nd (cY (pv 0)) (cF (by show qI ["tests","number","test"] (aA uw) _ _=true;decide +kernel)) (fun _ _ _ _ _=>(bL (i:=2) yr.nd rfl (Or.inl rfl))) (fun _ _ _ _ _=>yp) (fun _ _ _ _ _=>(fL dm (cZ (bA (K:=K)) (pv 2) aH (fun _ _=>rfl)) (pv 1) (aQ _)))) aq)))),?_⟩
 rintro vs R ⟨l,ps,n,rfl,ht,hz,rfl⟩
 obtain⟨l',e,hl,hp⟩:=id ht
 cases e
 refine aU ((acP (bs:=ps.map fun p=>decide (p.2.1=n)) ((jY (K:=K) (k:=2) (ys:=ps) (fun p=>V.ref p.1) (fun _=>true) (fun p=>V.bl (decide (p.2.1=n))) ((aa rfl).toL hl) (eZ hz) (fun y hy=>PX)
  (fun y hy _=>bY (Qc (aa rfl) (SqT.of (hp y hy)) aJ rfl) (aa rfl))).cast ?_)).cast ?_)
 ·rw[List.map_map]
  congr 1
  simp
 ·rw[List.any_map]
  rfl
theorem Y4{ps:List (Addr×Int×Int×Int)}{ts:List Vbbhaj.Test}(e:ps.map (·.2)=ts.map tri)(n:Nat):(ps.any fun p=>decide (p.2.1=(n:Int)))=ts.any fun t=>t.job==n:=by
 have h1:(ps.any fun p=>decide (p.2.1=(n:Int)))=(ps.map (·.2)).any fun q=>decide (q.1=(n:Int)):=by rw[List.any_map];rfl
 rw[h1,e,List.any_map]
 congr 1
 funext t
 show decide ((t.job:Int)=(n:Int))=(t.job==n)
 rw[Bool.eq_iff_iff]
 simp
 omega
theorem Hf{ps:List (Addr×Int×Int×Int)}{ts:List Vbbhaj.Test}(e:ps.map (·.2)=ts.map tri):ps.length=ts.length:=by
 have:=congrArg List.length e
 rw[List.length_map,List.length_map]at this
 exact this
theorem MJ(T:Txt K mg):bD P w K mg base CX0 3 T.mF.f T.mF.fd ["board","number"] (ro (gQ1 T .after)):=by
 refine cO T.mF.F rZ (fun vs H R ⟨_,_,_,e,_⟩=>by rw[e];rfl) fun cdv A outer s H E hr=>?_
 have hu:=d9 hr
 refine⟨_,(ak (bu (i:=2) rZ.nd rfl (Or.inl rfl) (aK T.cQ (iB T) (by exact hr.mono (by decide)) rfl (aj (pv 0) (aj (pv 1) aq))))
   (ak (a_ (aR ju (pv 2) (bz T.aW rfl) (aQ _)) (az (aC (bc (aj (pv 2) aq)))) aL)
   (ak (xH (i:=3) (own:=[("job",4)]) rfl rZ.nd rfl rfl (Bp rfl rfl rfl (by decide +kernel)) (cY (aK T.gH (pH T) (by exact hr.mono (by decide)) rfl (aj (pv 0) aq))) (cF (by show qI ["board","number","refusal","row","job"] (aA sE) _ _=true;decide +kernel)) (fun _ _ _ _ _=>(bL (i:=4) rZ.nd rfl (Or.inl rfl))) (fun _ _ _ _ _=>(jK (bJ (aK T.pB (Qx T) (by exact hr.mono (by decide)) rfl (aj (aD (K:=K) (pv 4) rfl) (aj (pv 1) aq)))))) (fun _ _ _ _ _=>(aD (K:=K) (pv 4) rfl)))
   (az (aC (jw p_ (bc (aj (bR bB rfl T.jo fX (aj (pv 3) aq)) aq)) (aK T.dJ (gk T) (by exact hr.mono (by decide)) rfl (aj (pv 3) aq)))))))),?_⟩
 rintro vs R ⟨A,s,n,rfl,h,iv,rfl⟩
 refine pL (xn (aa rfl) (aa rfl) h) ?_
 refine d7 (aP (fM (aa rfl) aJ)) (fun q=>aU ((aZ (aa rfl)).cast ?_)) fun q=>?_
 ·have q:=u_.mp (jr q)
  exact((congrArg (fun x=>vO x.2) (z8 q)).trans (Zb _)).symm
 have q:fO s n=0:=by simpa using q
 obtain⟨j,hj,hf⟩:=rJ q
 obtain⟨a,m,e⟩:=h.pair hj
 refine CK (jY (K:=K) (k:=4) (ys:=A.L) (fun p=>V.ref p.1) (fun p=>p.2.tests.any fun t=>t.job==j.num) (fun p=>V.int p.2.num) (Gi (aa rfl) h) (eZ h.Qq) (fun y hy=>?_) (fun y hy _=>gC (aa rfl) (h.job y hy))) ?_
 ·obtain⟨dx,na,l,ej,_,ps,ep,ht⟩:=id (h.job y hy)
  have my:y.2∈s.jobs:=by rw[← h.js];exact List.mem_map_of_mem (f:=(·.2)) hy
  have few:=(iv.g.ok _ my).few
  refine fB (Ev.cast (nQ (G:=ZK) (aB (bZ (aa rfl) ej T.bQ T.iy (JV.IK _)) (aB (aa rfl) aV)) fun H1 s1=>⟨l,ps,n,rfl,vY _ _ _ s1 ht,by rw[Hf ep];omega,rfl⟩) ?_)
  rw[← e,Y4 ep]
 rintro v H1 s1 ⟨l,rfl,hl⟩
 have ff:=h.JW fun k=>k.tests.any fun t=>t.job==j.num
 have hv:EvL (cu 3) (((start ["board","number","refusal","row","job"] [V.ref A.b,.int n]).set 2 (some (.int (fO s n)))).set 3 (some (.ref l))) H1 _:=(aa rfl).toL hl
 refine aU ((mL (aZ (zy hv)) (gM hv ?_) ?_).cast ?_)
 ·rw[List.length_map];exact Nat.lt_of_le_of_lt ff (by decide)
 ·refine sI ?_
  simp only[List.length_cons,List.length_nil,List.length_map]
  omega
 ·have e2:Vbbhaj.step s (.after n)=_:=hf _
  rw[e2]
  refine Eq.trans ?_ (Jg _ _).symm
  have e3:(A.L.filter fun p=>p.2.tests.any fun t=>t.job==j.num).map (fun p=>V.int p.2.num)=pI ((s.jobs.filter fun k=>k.tests.any fun t=>t.job==j.num).map fun k=>k.num):=by
   unfold pI
   rw[← h.js,List.filter_map,List.map_map,List.map_map]
   rfl
  rw[e3,jk,List.length_map]
  rfl
end
end Jq
end
section
set_option Elab.async false
set_option linter.all false
set_option maxRecDepth 100000
set_option maxHeartbeats 1000000
namespace Jq
open PySem PySem.Spec PyProof.Rows L2
theorem abz{A:Around}{k:Nat}(hr:jx k A):A.units+65<cLine:=by have:=hr.un;omega
section
variable {P:Program}{w:World}{K:PySem.W.Frag}{mg:Str→Option Value}{base:Heap}
variable {σ:St}{H:Hp}{ta tb tc td:TE}{a:Addr}{j:Vbbhaj.Job}{A:Ad}{s:Vbbhaj.State}{T:Txt K mg}
def aby(f:List Int→V)(few:Nat):GT:=fun vs H R=>∃l xs,vs=[.ref l]∧H l=some (.lst (xs.map V.int))∧xs.length≤few∧R=fun v _=>v=f xs
theorem P_{f:List Int→V}{few:Nat}{xs:List Int}(ha:EvL ta σ H (xs.map V.int))(hz:xs.length≤few):Ev (fH (ro (aby f few)) [] E0 (bw ta eV)) σ H (f xs) :=
 P0 (acN ha W2 aV) fun vs H1 s1 ⟨v,e,l,e2,q⟩=>⟨l,xs,by rw[e,e2],q,hz,rfl⟩
def ql(xs:List Int):Bool:=decide ((xs.length:Int) % 3=0)&&decide ((xs.length:Int) / 3≤8)
theorem Dg(T:Txt K mg):bD P w K mg base CX0 1 T.fV.f T.fV.fd ["row"] (ro (aby (fun xs=>.bl (ql xs)) 100000)):=by
 refine cO T.fV.F Dt (fun vs H R ⟨_,_,e,_⟩=>by rw[e];rfl) fun cdv A outer s H E hr=>⟨_,(az (aC (wB (fL dm (jw adl (bR bB rfl T.jo fX (aj (pv 0) aq)) aH) aH (aQ _)) (wC (fL eX (jw Qz (bR bB rfl T.jo fX (aj (pv 0) aq)) aH) (bz T.xX rfl) (aQ _)))))),?_⟩
 rintro vs R ⟨l,xs,rfl,h,hz,rfl⟩
 have hv:EvL (cu 0) (start ["row"] [V.ref l]) H (xs.map V.int):=(aa rfl).toL h
 have hn:(xs.map V.int).length=xs.length:=List.length_map ..
 exact aU ((vU (bY (Iw (mK hv hn) aJ (by decide)) aJ) fun _=>eY (Iw (mK hv hn) aJ ⟨by decide,by decide⟩) aJ).cast rfl)
def jP(t:Int×Int×Int):Bool:=Vbbhaj.isNum t.1&&(Vbbhaj.inside t.2.1 0 3&&Vbbhaj.inside t.2.2 0 4095)
def aco:GT:=fun vs H R=>∃x y z,vs=[.int x,.int y,.int z]∧R=fun v _=>v=.bl (jP (x,y,z))
theorem Vs(T:Txt K mg):bD P w K mg base CX0 2 T.uA.f T.uA.fd ["job","kind","n"] (ro aco):=by
 refine cO T.uA.F V4 (fun vs H R ⟨_,_,_,e,_⟩=>by rw[e];rfl) fun cdv A outer s H E hr=>⟨_,(az (aC (wB (aK T.fZ (xx T) (by exact hr.mono (by decide)) rfl (aj (pv 0) aq)) (wB (iC eX eX aH (pv 1) aH) (wC (aK T.qM (Ko T) (by exact hr.mono (by decide)) rfl (aj (pv 2) aq))))))),?_⟩
 rintro vs R ⟨x,y,z,rfl,rfl⟩
 exact aU ((vU (iY (aa rfl)) fun _=>vU ((gn aJ (aa rfl) aJ).cast (congrArg V.bl (d_ _ _ _).symm)) fun _=>iY (aa rfl)).cast rfl)
def nm(xs:List Int):Bool:=(decide (1≤(xs.length:Int))&&decide ((xs.length:Int)≤8))&&(Vbbhaj.inside (xs.headD 0) 65 90&&xs.all fun c=>Vbbhaj.inside c 65 90||Vbbhaj.inside c 48 57)
theorem Vr(T:Txt K mg):bD P w K mg base CX0 2 T.uz.f T.uz.fd ["row"] (ro (aby (fun xs=>.bl (nm xs)) 100000)):=by
 refine cO T.uz.F K6 (fun vs H R ⟨_,_,e,_⟩=>by rw[e];rfl) fun cdv A outer s H E hr=>⟨_,(ak (a_ (cD (S5 eX eX aH (bR bB rfl T.jo fX (aj (pv 0) aq)) (bz T.uI rfl))) (az (aC lN)) aL)
   (ak (a_ (cD (bJ (aK T.k_ (Ey T) (by exact hr.mono (by decide)) rfl (aj (cZ (bA (K:=K)) (pv 0) aH (fun _ _=>rfl)) aq)))) (az (aC lN)) aL)
   (ak (tU PassesOwn.never rfl (cY (pv 0)) (bL (i:=1) K6.nd rfl (Or.inl rfl)) (az (a_ (PW.pt (KD (cD (bJ (aK T.k_ (Ey T) (by exact hr.mono (by decide)) rfl (aj (pv 1) aq)))) (Fe (cD (bJ (aK T.qN (Sw T) (by exact hr.mono (by decide)) rfl (aj (pv 1) aq))))))) (az (aC lN)) aL)))
   (az (aC lN))))),?_⟩
 rintro vs R ⟨l,xs,rfl,h,hz,rfl⟩
 have hv:EvL (cu 0) (start ["row","byte"] [V.ref l]) H (xs.map V.int):=(aa rfl).toL h
 have hn:(xs.map V.int).length=xs.length:=List.length_map ..
 refine d7 (cC (aP (gn aJ (mK hv hn) aJ))) (fun q=>aU (aJ.cast ?_)) fun q=>?_
 ·have q:=jr q
  show V.bl false=V.bl (nm xs)
  unfold nm
  rw[q]
  rfl
 have q:=nU q
 obtain⟨x,r,rfl⟩:∃x r,xs=x::r:=by
  cases xs with
  |nil=>exact absurd q (by decide)
  |cons x r=>exact⟨x,r,rfl⟩
 refine d7 (cC (fB (iY (qJ (v:=.int x) hv aJ (O7 (j:=0) rfl))))) (fun q2=>aU (aJ.cast ?_)) fun q2=>?_
 ·have q2:=jr q2
  show V.bl false=V.bl (nm (x::r))
  unfold nm
  rw[q,show Vbbhaj.inside ((x::r).headD 0) 65 90=false from q2]
  rfl
 have q2:=nU q2
 refine Wv (K:=K) (ys:=x::r) V.int (fun c=>!Vbbhaj.inside c 65 90&&!Vbbhaj.inside c 48 57) (by show 1<2;decide) hv (fun y hy=>JR (cC (fB (iY (aa rfl)))) fun _=>cC (fB (iY (aa rfl)))) (fun y hy q3=>aU (aJ.cast ?_)) fun hg o=>aU (aJ.cast ?_)
 ·show V.bl false=V.bl (nm (x::r))
  unfold nm
  rw[q]
  have:((x::r).all fun c=>Vbbhaj.inside c 65 90||Vbbhaj.inside c 48 57)=false:=by
   rw[List.all_eq_false]
   refine⟨y,hy,?_⟩
   simp only[Bool.and_eq_true,Bool.not_eq_true']at q3
   rw[q3.1,q3.2]
   simp
  rw[this,Bool.and_false]
  rfl
 ·show V.bl true=V.bl (nm (x::r))
  unfold nm
  rw[q,show Vbbhaj.inside ((x::r).headD 0) 65 90=true from q2]
  have:((x::r).all fun c=>Vbbhaj.inside c 65 90||Vbbhaj.inside c 48 57)=true:=by
   rw[List.all_eq_true]
   intro y hy
   have:=hg y hy
   cases h1:Vbbhaj.inside y 65 90<;>cases h2:Vbbhaj.inside y 48 57<;>simp_all
  rw[this]
  rfl
theorem XR{ns:List Int}(ha:EvL ta σ H (ns.map V.int))(hz:ns.length≤400):Ev (tCB (fun xs H Q=>∃a S n,xs=[V.ref a]∧H a=some (.set S n)∧Q (.int (n:Nat)) H) (bw (tCB aaJ (bw ta eV)) eV)) σ H (.int (firstMet (fun i=>ns.getD i 0) ns.length).length):=fun H1 s Q k =>
 ha H1 s _ fun x' H2 s2 ⟨l,e,q⟩=>⟨l,ns,by rw[e],q,hz,fun p hp S=>⟨p,S,_,rfl,aX,k _ _ (s2.trans (jl hp)) rfl⟩⟩
theorem Gw(T:Txt K mg):bD P w K mg base CX0 2 T.g_.f T.g_.fd ["row"] (ro (aby (fun xs=>.bl (Vbbhaj.areClasses xs)) 400)):=by
 refine cO T.g_.F xM (fun vs H R ⟨_,_,e,_⟩=>by rw[e];rfl) fun cdv A outer s H E hr=>⟨_,(ak (a_ (cD (S5 eX eX aH (bR bB rfl T.jo fX (aj (pv 0) aq)) (bz T.jz rfl))) (az (aC lN)) aL)
   (ak (tU PassesOwn.never rfl (cY (pv 0)) (bL (i:=1) xM.nd rfl (Or.inl rfl)) (az (a_ (cD (bJ (aK T.fY (lM T) (by exact hr.mono (by decide)) rfl (aj (pv 1) aq)))) (az (aC lN)) aL)))
   (az (aC (fL dm (bR XC rfl T.jo fX (aj (mV (Zk rfl) rfl T.abf acK (aj (pv 0) aq)) aq)) (bR bB rfl T.jo fX (aj (pv 0) aq)) (aQ _)))))),?_⟩
 rintro vs R ⟨l,xs,rfl,h,hz,rfl⟩
 have hv:EvL (cu 0) (start ["row","class_of"] [V.ref l]) H (xs.map V.int):=(aa rfl).toL h
 have hn:(xs.map V.int).length=xs.length:=List.length_map ..
 have e8:decide (1≤xs.length∧xs.length≤8)=(decide (1≤(xs.length:Int))&&decide ((xs.length:Int)≤8)):=by
  rw[Bool.eq_iff_iff]
  simp
  omega
 refine d7 (cC (aP (gn aJ (mK hv hn) aJ))) (fun q=>aU (aJ.cast ?_)) fun q=>?_
 ·have q:=jr q
  show V.bl false=V.bl (Vbbhaj.areClasses xs)
  rw[vR,e8,q]
  rfl
 have q:=nU q
 refine Wv (K:=K) (ys:=xs) V.int (fun c=>!Vbbhaj.isClass c) (by show 1<2;decide) hv (fun y hy=>cC (fB (iY (aa rfl)))) (fun y hy q3=>aU (aJ.cast ?_)) fun hg o=>?_
 ·have q3:=jr q3
  have:xs.all Vbbhaj.isClass=false:=by
   rw[List.all_eq_false]
   exact⟨y,hy,by rw[q3];simp⟩
  show V.bl false=V.bl (Vbbhaj.areClasses xs)
  rw[vR,this,Bool.false_and,Bool.and_false]
 ·have hv':EvL (cu 0) ((start ["row","class_of"] [V.ref l]).set 1 o) H (xs.map V.int):=(aa rfl).toL h
  refine aU ((bY (XR hv' hz) (mK hv' hn)).cast ?_)
  have e2:xs.all Vbbhaj.isClass=true:=List.all_eq_true.mpr fun y hy=>nU (hg y hy)
  show _=V.bl (Vbbhaj.areClasses xs)
  rw[vR,e8,q,e2,Bool.true_and,Bool.true_and]
  congr 1
  rw[Bool.eq_iff_iff,decide_eq_true_eq,decide_eq_true_eq,← RM]
  omega
theorem R4{J:It}{n:Nat}{g:TG}{tt:TT}{te:TE}{vs:List Nat}{σ:St}{H1:Hp}{D:Addr}{Qd:Hp→Prop}(Pv:Nat→Hp→Prop)(h0:Pv 0 (upd H1 D (.lst [])))(stop:∀H,J.stop n H)(go:∀i H,i<n→J.go i H)
  (hs:∀i H x H',i<n→Pv i H→J.yld i H x H'→g x (wipe σ vs) H' fun σ2 H2=>wipe σ2 vs=wipe σ vs∧tt σ2 H2 fun b H3 =>
   if b=true then te σ2 H3 fun y H4=>∃acc,H4 D=some (.lst acc)∧acc.length<sizeLine∧Pv (i+1) (upd H4 D (.lst (acc++[y])))else Pv (i+1) H3) (hd:∀H,Pv n H→Qd H) :
  ∃W:Nat→Nat→Hp→Prop,(∃m,W 0 m (upd H1 D (.lst [])))∧∀i m H,W i m H →
   (J.stop i H∧Qd H)∨(J.go i H∧∃Nx:Hp→Prop,(∀H',Nx H'→∃m',m'<m∧W (i+1) m' H')∧∀x H',J.yld i H x H'→g x (wipe σ vs) H' fun σ2 H2=>wipe σ2 vs=wipe σ vs∧tt σ2 H2 fun b H3 =>
    if b=true then te σ2 H3 fun y H4=>∃acc,H4 D=some (.lst acc)∧acc.length<sizeLine∧Nx (upd H4 D (.lst (acc++[y])))else Nx H3):=by
 refine⟨fun i m H=>m=n - i∧i≤n∧Pv i H,⟨n,by simp,Nat.zero_le _,h0⟩,?_⟩
 rintro i m H ⟨rfl,hi,p⟩
 by_cases hlt:i<n
 ·exact .inr ⟨go i H hlt,Pv (i+1),fun H' p'=>⟨n - (i+1),by omega,rfl,hlt,p'⟩,fun x H' y=>hs i H x H' hlt p y⟩
 ·have e:i=n:=by omega
  subst e
  exact .inl ⟨stop H,hd H p⟩
theorem rg3{n:Nat}(h:n≤8):RgC 0 ((3 * n:Nat):Int) 3 n:=by
 have:n=0∨n=1∨n=2∨n=3∨n=4∨n=5∨n=6∨n=7∨n=8:=by omega
 rcases this with rfl|rfl|rfl|rfl|rfl|rfl|rfl|rfl|rfl<;>exact⟨by decide,by decide,by decide +kernel,by decide +kernel⟩
theorem ab9{xs:List Int}{n i k:Nat}(hx:xs.length=3 * n)(hi:i<n)(hk:k<3):atI (xs.map V.int) (((3 * i+k:Nat)):Int)=some (.int (xs.getD (3 * i+k) 0)):=by
 refine O7 ?_
 rw[List.getElem?_map,List.getD_eq_getElem?_getD,List.getElem?_eq_getElem (by omega)]
 rfl
def Qi:GT:=fun vs H R=>∃l xs n,vs=[.ref l]∧H l=some (.lst (xs.map V.int))∧xs.length=3 * n∧n≤8∧R=fun v H'=>∃ps,ps.map (·.2)=(List.range n).map (wO xs)∧Bu H' ps v∧∀p∈ps,H p.1=none
theorem zZ(T:Txt K mg):bD P w K mg base CX0 1 T.iM.f T.iM.fd ["row"] (ro Qi):=by
 refine cO T.iM.F vf (fun vs H R ⟨_,_,_,e,_⟩=>by rw[e];rfl) fun cdv A outer s H E hr=>⟨_,(az (aC (ue (own:=[("place",1)]) rfl vf.nd (YB rfl T.yH (aj aH (aj (bR bB rfl T.jo fX (aj (pv 0) aq)) (aj aH aq)))) (cF (by show qI ["row","place"] (aA qF) _ _=true;decide +kernel)) (fun _ _ _ _ _=>(bL (i:=1) vf.nd rfl (Or.inl rfl))) (fun _ _ _ _ _=>yp) (fun _ _ _ _ _=>(VH (aj (cZ (bA (K:=K)) (pv 0) (pv 1) (fun _ _=>rfl)) (aj (cZ (bA (K:=K)) (pv 0) (jw z9 (pv 1) aH) (fun _ _=>rfl)) (aj (cZ (bA (K:=K)) (pv 0) (jw z9 (pv 1) aH) (fun _ _=>rfl)) aq)))))))),?_⟩
 rintro vs R ⟨l,xs,n,rfl,h,hx,hn,rfl⟩
 refine aU ?_
 intro H1 s1 Q k
 have hv:EvL (cu 0) (start ["row","place"] [V.ref l]) H1 (xs.map V.int):=(aa rfl).toL (s1 _ _ h)
 have hl1:(xs.map V.int).length=3 * n:=by rw[List.length_map];exact hx
 unfold tLc acr
 refine EvA.use (aB aJ (aB (mK (K:=K) hv hl1) (aB aJ aV))) fun vs Hc sx e=>?_
 subst e
 refine⟨0,((3 * n:Nat):Int),3,n,rfl,rg3 hn,fun D hD=>?_⟩
 refine R4 (n:=n) (Qd:=fun H'=>Q (.ref D) H') (fun i H'=>aY Hc H'∧∃ps:List (Addr×Int×Int×Int),ps.map (·.2)=(List.range i).map (wO xs)∧H' D=some (.lst (ps.map fun p=>V.ref p.1))∧(∀p∈ps,H' p.1=some (.tup [.int p.2.1,.int p.2.2.1,.int p.2.2.2]))∧∀p∈ps,H p.1=none)
  ⟨jl hD,[],rfl,aX,by simp,by simp⟩ (fun H=>Nat.le_refl _) (fun i H hi=>hi) ?_ ?_
 ·rintro i H2 x H3 hi ⟨s2,ps,e1,e2,e3,e9⟩ ⟨rfl,rfl⟩
  refine⟨Fv _ 1 _,?_⟩
  simp only[Y0,if_true]
  have hl:∀{H':Hp},aY H3 H'→EvL (cu 0) ((wipe (start ["row","place"] [V.ref l]) [1]).set 1 (some (.int (0+(i:Nat) * 3)))) H' (xs.map V.int):=fun s'=>(aa rfl).toL (s' _ _ (s2 _ _ (sx _ _ (s1 _ _ h))))
  have e0:∀m:Nat,m<3→atI (xs.map V.int) (0+(i:Nat) * 3+(m:Int))=some (.int (xs.getD (3 * i+m) 0)):=fun m hm=>by
   have:=ab9 hx hi hm
   rw[← this]
   congr 1
   omega
  refine(EvA.use (aB (qJ (K:=K) (hl (aY.refl _)) (aa rfl) (show atI (xs.map V.int) (0+(i:Nat) * 3)=some (.int (xs.getD (3 * i) 0))from by have:=e0 0 (by decide);simpa using this)) (aB (qJ (K:=K) (hl (aY.refl _)) (eY (aa rfl) aJ) (e0 1 (by decide))) (aB (qJ (K:=K) (hl (aY.refl _)) (eY (aa rfl) aJ) (e0 2 (by decide))) aV))) fun us H4 s4 e4=>?_)
  subst e4
  refine⟨by show 3≤sizeLine;decide,fun p hp=>?_⟩
  refine⟨ps.map fun p=>V.ref p.1,?_,?_,?_,ps++[(p,wO xs i)],?_,?_,?_,?_⟩
  ·rw[aO (bj (s4 _ _ e2) hp)];exact s4 _ _ e2
  ·have:=congrArg List.length e1
   rw[List.length_map,List.length_map,List.length_range]at this
   rw[List.length_map,this]
   exact iw (by omega)
  ·intro b o eb
   have hb:H4 b=some o:=s4 _ _ (s2 _ _ eb)
   rw[aO (bj eb hD),aO (bj hb hp)]
   exact hb
  ·rw[List.map_append,e1,List.range_succ,List.map_append]
   rfl
  ·rw[aX,List.map_append]
   rfl
  ·intro r hr
   have hDp:(upd H4 p (.tup [.int (xs.getD (3 * i) 0),.int (xs.getD (3 * i+1) 0),.int (xs.getD (3 * i+2) 0)])) D=some (.lst (ps.map fun p=>V.ref p.1)):=by rw[aO (bj (s4 _ _ e2) hp)];exact s4 _ _ e2
   have hrp:(upd H4 p (.tup [.int (xs.getD (3 * i) 0),.int (xs.getD (3 * i+1) 0),.int (xs.getD (3 * i+2) 0)])) r.1=some (.tup [.int r.2.1,.int r.2.2.1,.int r.2.2.2]):=by
    rcases List.mem_append.mp hr with hr|hr
    ·have:=s4 _ _ (e3 r hr)
     rw[aO (bj this hp)]
     exact this
    ·rw[List.mem_singleton.mp hr,aX]
     rfl
   rw[aO (cB hrp hDp (by intro z;cases z))]
   exact hrp
  ·intro r hr
   rcases List.mem_append.mp hr with hr|hr
   ·exact e9 r hr
   ·rw[List.mem_singleton.mp hr]
    exact(s1.trans (sx.trans (s2.trans s4))).free hp
 ·rintro H' ⟨s3,ps,e1,e2,e3,e9⟩
  exact k _ _ (sx.trans s3) ⟨ps,e1,⟨D,rfl,e2,e3⟩,e9⟩
end
end Jq
end
section
set_option Elab.async false
set_option linter.all false
set_option maxRecDepth 100000
set_option maxHeartbeats 1000000
namespace L2
open PySem PySem.Spec PyProof.Rows
section
variable {K:PySem.W.Frag}{tl:TE}{tb tr:TS}{σ:St}{H:Hp}{k1 k2 k3:Nat}{R:V→Hp→Prop}
theorem JN{t1 t2:TE}{x:V}{R:V→Hp→Prop}(ha:Ev t1 σ H x)(hb:EvP t2 σ H R)(m:Q_ R):EvA (bw t1 (bw t2 eV)) σ H fun vs H'=>∃v,vs=[x,v]∧R v H':=fun H1 s Q k =>
 ha H1 s _ fun x' H2 s2 e=>hb H2 (s.trans s2) _ fun y H3 s3 r=>k _ H3 (s2.trans s3) ⟨y,by rw[e],r⟩
theorem aN{t u:TS}{D:Ends}(h:t {D with nx:=u D} σ H):nH t u D σ H:=h
theorem iG{te:TE}{i:Nat}{v:V}{D:Ends}(h:Ev te σ H v)(k:∀H',aY H H'→D.nx (σ.set i (some v)) H'):Wd te (uK i) D σ H:=h H (aY.refl _) _ fun u H' s e=>by subst e;exact k H' s
theorem vC{te:TE}{i:Nat}{R:V→Hp→Prop}{D:Ends}(h:EvP te σ H R)(k:∀v H',aY H H'→R v H'→D.nx (σ.set i (some v)) H'):Wd te (uK i) D σ H:=h H (aY.refl _) _ k
theorem Ft{c:TT}{t u:TS}{b:Bool}{D:Ends}(h:EvT c σ H b)(k1:b=true→∀H',aY H H'→t D σ H')(k2:b=false→∀H',aY H H'→u D σ H'):YZ c t u D σ H:=h H (aY.refl _) _ fun H' s=>by
 cases b with
 |true=>exact Ig (k1 rfl H' s)
 |false=>exact Ie (k2 rfl H' s)
theorem cI{te:TE}{R:V→Hp→Prop}{D:Ends}(h:EvP te σ H R)(k:∀v H',aY H H'→R v H'→D.rt v H'):Lq te D σ H:=h H (aY.refl _) _ k
theorem JQ{ps:List (Addr×Int×Int×Int)}(Sg:St→Prop)(p:Int×Int×Int→Bool)(h0:Sg σ)(hl:EvP tl σ H fun v H=>Bu H ps v)
  (hs:∀y∈ps,∀σ',Sg σ'→∀H1,aY H H1→∀D:Ends,(p y.2=true→∀v H',aY H1 H'→R v H'→D.rt v H')→(p y.2=false→∀σ'' H',Sg σ''→aY H1 H'→D.nx σ'' H') →
   tb D (((σ'.set k1 (some (.int y.2.1))).set k2 (some (.int y.2.2.1))).set k3 (some (.int y.2.2.2))) H1)
  (hg:(∀y∈ps,p y.2=false)→∀σ',Sg σ'→EvS tr σ' H R) :
  EvS (nH (aa2 (Nz K tl) (adW K 3 (WL (uK k1) (WL (uK k2) (WL (uK k3) adU)))) tb) tr) σ H R:=by
 intro H1 s D q
 refine hl H1 s _ fun v H2 s2 ⟨l,e,hl2,ht2⟩=>⟨l,e,⟨_,SqL.of hl2⟩,?_⟩
 refine JX (K:=K) (a:=l) (xs:=ps.map fun p=>V.ref p.1) (fun i σ' H'=>aY H2 H'∧(∀y∈ps.take i,p y.2=false)∧Sg σ') ⟨aY.refl _,by simp,h0⟩ (fun i σ' H' _ h=>SqL.of (h.1 _ _ hl2)) ?_ ?_
 ·rintro i x σ' H' hx ⟨s3,h3,hsg⟩
  obtain⟨y,hy,rfl⟩:∃y,ps[i]?=some y∧V.ref y.1=x:=by
   rw[List.getElem?_map]at hx
   cases e:ps[i]? with
   |none=>rw[e]at hx;cases hx
   |some y=>rw[e]at hx;exact⟨y,rfl,Option.some.inj hx⟩
  have mx:y∈ps:=List.mem_of_getElem? hy
  refine⟨y.1,_,rfl,SqT.of (s3 _ _ (ht2 y mx)),rfl,_,_,rfl,_,_,rfl,_,_,rfl,rfl,?_⟩
  refine hs y mx σ' hsg H' (s.trans (s2.trans s3)) _ (fun hp v H4 s4 r=>q v H4 (s2.trans (s3.trans s4)) r) fun hp σ'' H4 g4 s4=>⟨s3.trans s4,fun z hz=>?_,g4⟩
  rw[rO hy]at hz
  rcases List.mem_append.mp hz with hz|hz
  ·exact h3 z hz
  ·rw[List.mem_singleton.mp hz];exact hp
 ·rintro σ' H' ⟨s3,h3,hsg⟩
  rw[List.length_map,List.take_length]at h3
  exact hg h3 σ' hsg H' (s.trans (s2.trans s3)) D fun v H4 s4 r=>q v H4 (s2.trans (s3.trans s4)) r
end
end L2
namespace Jq
open PySem PySem.Spec PyProof.Rows L2
def yK(l:List Vbbhaj.Job)(t:Int×Int×Int):Bool:=match t7 l t.1 with
 |some j=>(endOf j).isSome&&!zz t.2.1 t.2.2 (yR j.status) (JK j.status)
 |none=>false
def xG(l:List Vbbhaj.Job)(t:Int×Int×Int):Bool:=match t7 l t.1 with
 |some j=>(endOf j).isNone
 |none=>false
section
variable {P:Program}{w:World}{K:PySem.W.Frag}{mg:Str→Option Value}{base:Heap}
variable {σ:St}{H:Hp}{ta tb tc td:TE}{a:Addr}{j:Vbbhaj.Job}{A:Ad}{s:Vbbhaj.State}{T:Txt K mg}
def gTs(T:Txt K mg)(f:Hp→List Vbbhaj.Job→List (Addr×Int×Int×Int)→V→Hp→Prop):GT:=fun vs H R=>∃d l L ps,vs=[.ref d,.ref l]∧H d=some (.dK (qU L))∧Cq T H L∧cV (L.map (·.2))∧Bu H ps (.ref l)∧(∀p∈ps,∃q∈L,(q.2.num:Int)=p.2.1)∧ps.length≤8∧R=f H (L.map (·.2)) ps
theorem Jw{L:List (Addr×Vbbhaj.Job)}(hs:cV (L.map (·.2))){q:Addr×Vbbhaj.Job}(hq:q∈L):t7 (L.map (·.2)) (q.2.num:Int)=some q.2:=Jv hs (List.mem_map_of_mem (f:=(·.2)) hq)
theorem u6(T:Txt K mg):bD P w K mg base CX0 2 T.dW.f T.dW.fd ["jobs","tests"] (ro (gTs T fun _ l ps v _=>v=.bl (ps.any fun p=>yK l p.2))):=by
 refine cO T.dW.F gR (fun vs H R ⟨_,_,_,_,e,_⟩=>by rw[e];rfl) fun cdv A outer s H E hr=>?_
 have hu:=d9 hr
 refine⟨_,(ak (tU PassesOwn.never rfl (cY (pv 1)) (VJ rfl (qd (bL (i:=2) gR.nd rfl (Or.inl rfl)) (qd (bL (i:=3) gR.nd rfl (Or.inl rfl)) (qd (bL (i:=4) gR.nd rfl (Or.inl rfl)) QG)))) (ak (bu (i:=5) gR.nd rfl (Or.inl rfl) (cM (by exact hu) (pv 0) (pv 2) (fun _ _=>rfl)))
   (az (a_ (PW.pt (KD (bJ (aK T.jt (ym T) (by exact hr.mono (by decide)) rfl (aj (pv 5) aq))) (Fe (cD (bJ (aK T.xf (Yw T) (by exact hr.mono (by decide)) rfl (aj (pv 3) (aj (pv 4) (aj (aD (K:=K) (pv 5) rfl) (aj (aD (K:=K) (pv 5) rfl) aq)))))))))) (az (aC lN)) aL))))
   (az (aC lN))),?_⟩
 rintro vs R ⟨d,l,L,ps,rfl,hd,hj,hs,ht,hin,hz,rfl⟩
 refine JQ (K:=K) (ps:=ps) (fun σ=>∃o2 o3 o4 o5,σ=[some (.ref d),some (.ref l),o2,o3,o4,o5]) (yK (L.map (·.2))) ⟨_,_,_,_,rfl⟩ (Qe rfl ht vY) ?_ ?_
 ·rintro y hy σ' ⟨o2,o3,o4,o5,rfl⟩ H1 s1 D k1 k2
  obtain⟨q,hq,eq⟩:=hin y hy
  have jq:=(hj q hq).up s1
  have ef:yK (L.map (·.2)) y.2=((endOf q.2).isSome&&!zz y.2.2.1 y.2.2.2 (yR q.2.status) (JK q.2.status)):=by unfold yK;rw[← eq,Jw hs hq]
  refine aN (iG (fK (v:=.ref q.1) (aa rfl) (aa rfl) (s1 _ _ hd) (by rw[← eq];exact zA hs hq)) fun H2 s2=>?_)
  have jq2:=jq.up s2
  dsimp only
  refine Ft (EvT.cast (JR (fB (n6 (aa rfl) jq2)) fun _=>cC (fB (Ev.cast (nQ (G:=adT) (aB (aa rfl) (aB (aa rfl) (aB (jF (aa rfl) jq2) (aB (Nv (aa rfl) jq2) aV)))) fun H3 s3=>⟨_,_,_,_,rfl,rfl⟩) rfl))) ef.symm) (fun e H3 s3=>?_) fun e H3 s3=>?_
  case refine_2=>exact k2 e _ _ ⟨_,_,_,_,rfl⟩ (s2.trans s3)
  exact k1 e _ _ (s2.trans s3) (by show V.bl true=_;congr 1;symm;exact List.any_eq_true.mpr ⟨y,hy,e⟩)
 ·rintro hg σ' ⟨o2,o3,o4,o5,rfl⟩
  refine aU (aJ.cast ?_)
  congr 1
  symm
  rw[List.any_eq_false]
  intro y hy
  rw[hg y hy]
  simp
theorem ud(T:Txt K mg):bD P w K mg base CX0 2 T.dF.f T.dF.fd ["jobs","tests"] (ro (gTs T fun H l ps v H'=>Bu H' (ps.filter fun p=>xG l p.2) v∧∃d,v=.ref d∧H d=none)):=by
 refine cO T.dF.F nu (fun vs H R ⟨_,_,_,_,e,_⟩=>by rw[e];rfl) fun cdv A outer s H E hr=>?_
 have hu:=d9 hr
 refine⟨_,(az (aC (ue (own:=[("test",2)]) rfl nu.nd (cY (pv 1)) (cF (by show qI ["jobs","tests","test"] (aA iU) _ _=true;decide +kernel)) (fun _ _ _ _ _=>(bL (i:=2) nu.nd rfl (Or.inl rfl))) (fun _ _ _ _ _=>(jK (cD (bJ (aK T.jt (ym T) (by exact hr.mono (by decide)) rfl (aj (cM (by exact hu) (pv 0) (cZ (bA (K:=K)) (pv 2) aH (fun _ _=>rfl)) (fun _ _=>rfl)) aq)))))) (fun _ _ _ _ _=>(pv 2))))),?_⟩
 rintro vs R ⟨d,l,L,ps,rfl,hd,hj,hs,ht,hin,hz,rfl⟩
 obtain⟨l',e,hl,hp⟩:=id ht
 cases e
 refine aU (EvP.imp (ZG (K:=K) (k:=2) (ys:=ps) (fun p=>V.ref p.1) (fun p=>xG (L.map (·.2)) p.2) (fun p=>V.ref p.1) ((aa rfl).toL hl) (eZ (by omega)) (fun y hy=>?_) (fun y hy _=>aa rfl)) ?_)
 ·obtain⟨q,hq,eq⟩:=hin y hy
  have eo:xG (L.map (·.2)) y.2=!(endOf q.2).isSome:=by unfold xG;rw[← eq,Jw hs hq];show(endOf q.2).isNone=_;cases endOf q.2<;>rfl
  rw[eo]
  exact cC (fB (n6 (fK (v:=.ref q.1) (aa rfl) (Qc (aa rfl) (SqT.of (hp y hy)) aJ rfl) hd (by rw[← eq];exact zA hs hq)) (hj q hq)))
 ·rintro v H' s' ⟨l2,rfl,n2,hl2⟩
  exact⟨⟨l2,rfl,hl2,fun p hp'=>s' _ _ (hp p (List.mem_filter.mp hp').1)⟩,l2,rfl,n2⟩
def vB(l:List Vbbhaj.Job)(t:Int×Int×Int):Bool:=(t7 l t.1).isSome
def lO(l:List Vbbhaj.Job)(ts:List (Int×Int×Int)):Int:=if (ts.any fun t=>!jP t)=true then -1 else if (ts.any fun t=>!vB l t)=true then -4 else if (ts.any fun t=>yK l t)=true then -7 else 0
def adV(T:Txt K mg):GT:=fun vs H R=>∃A s l ps,vs=[.ref A.b,.ref l]∧Rep T H A s∧Bu H ps (.ref l)∧ps.length≤8∧R=fun v _=>v=.int (lO s.jobs (ps.map (·.2)))
theorem yV(ps:List (Addr×Int×Int×Int))(f:Int×Int×Int→Bool):(ps.map (·.2)).any f=ps.any fun p=>f p.2:=by rw[List.any_map];rfl
theorem Jh{ps:List (Addr×Int×Int×Int)}{f:Int×Int×Int→Bool}(h:∀y∈ps,f y.2=false):(ps.map (·.2)).any f=false:=by
 rw[yV,List.any_eq_false]
 intro y hy
 rw[h y hy]
 simp
theorem Wm{ps:List (Addr×Int×Int×Int)}{f:Int×Int×Int→Bool}{y:Addr×Int×Int×Int}(hy:y∈ps)(h:f y.2=true):(ps.map (·.2)).any f=true:=by
 rw[yV]
 exact List.any_eq_true.mpr ⟨y,hy,h⟩
theorem BK(T:Txt K mg):bD P w K mg base CX0 3 T.fu.f T.fu.fd ["board","tests"] (ro (adV T)):=by
 refine cO T.fu.F dw (fun vs H R ⟨_,_,_,_,e,_⟩=>by rw[e];rfl) fun cdv A outer s H E hr=>?_
 have hu:=d9 hr
 refine⟨_,(ak (tU PassesOwn.never rfl (cY (pv 1)) (VJ rfl (qd (bL (i:=2) dw.nd rfl (Or.inl rfl)) (qd (bL (i:=3) dw.nd rfl (Or.inl rfl)) (qd (bL (i:=4) dw.nd rfl (Or.inl rfl)) QG)))) (az (a_ (cD (bJ (aK T.uA (Vs T) (by exact hr.mono (by decide)) rfl (aj (pv 2) (aj (pv 3) (aj (pv 4) aq)))))) (az (aC (bz T.bH rfl))) aL)))
   (ak (tU PassesOwn.never rfl (cY (pv 1)) (VJ rfl (qd (bL (i:=2) dw.nd rfl (Or.inl rfl)) (qd (bL (i:=3) dw.nd rfl (Or.inl rfl)) (qd (bL (i:=4) dw.nd rfl (Or.inl rfl)) QG)))) (az (a_ (aaG (N5 (by exact hu) (pv 2) (aD (K:=K) (pv 0) rfl))) (az (aC (bz T.Eg rfl))) aL)))
   (ak (a_ (bJ (aK T.dW (u6 T) (by exact hr.mono (by decide)) rfl (aj (aD (K:=K) (pv 0) rfl) (aj (pv 1) aq)))) (az (aC (bz T.vQ rfl))) aL)
   (az (aC (bz T.aW rfl)))))),?_⟩
 rintro vs R ⟨A,s,l,ps,rfl,h,ht,hz,rfl⟩
 refine JQ (K:=K) (ps:=ps) (fun σ=>∃o2 o3 o4,σ=[some (.ref A.b),some (.ref l),o2,o3,o4]) (fun t=>!jP t) ⟨_,_,_,rfl⟩ (Qe rfl ht vY) ?_ ?_
 ·rintro y hy σ' ⟨o2,o3,o4,rfl⟩ H1 s1 D k1 k2
  refine Ft (cC (fB (Ev.cast (nQ (G:=aco) (aB (aa rfl) (aB (aa rfl) (aB (aa rfl) aV))) fun H3 s3=>⟨_,_,_,rfl,rfl⟩) rfl))) (fun e H3 s3=>?_) fun e H3 s3=>k2 e _ _ ⟨_,_,_,rfl⟩ s3
  refine k1 e _ _ s3 ?_
  show V.int (-1)=_
  unfold lO
  rw[Wm (f:=fun t=>!jP t) hy e,if_pos rfl]
 rintro g1 σ' ⟨o2,o3,o4,rfl⟩
 refine JQ (K:=K) (ps:=ps) (fun σ=>∃o2 o3 o4,σ=[some (.ref A.b),some (.ref l),o2,o3,o4]) (fun t=>!vB s.jobs t) ⟨_,_,_,rfl⟩ (Qe rfl ht vY) ?_ ?_
 ·rintro y hy σ' ⟨o2,o3,o4,rfl⟩ H1 s1 D k1 k2
  refine Ft (fB ((Nu (aa rfl) (cA (aa rfl) (h.up s1)) (h.up s1).jobs).cast (w:=.bl (!vB s.jobs y.2)) (by rw[h.isSome];rfl))) (fun e H3 s3=>?_) fun e H3 s3=>k2 e _ _ ⟨_,_,_,rfl⟩ s3
  refine k1 e _ _ s3 ?_
  show V.int (-4)=_
  unfold lO
  rw[Jh (f:=fun t=>!jP t) g1,if_neg Bool.false_ne_true,Wm (f:=fun t=>!vB s.jobs t) hy e,if_pos rfl]
 rintro g2 σ' ⟨o2,o3,o4,rfl⟩
 have hin:∀p∈ps,∃q∈A.L,(q.2.num:Int)=p.2.1:=fun p hp=>by
  have e:(t7 s.jobs p.2.1).isSome=true:=nU (g2 p hp)
  obtain⟨j,ej⟩:=Option.isSome_iff_exists.mp e
  rw[← h.js]at ej
  obtain⟨a,m,en⟩:=QD ej
  exact⟨(a,j),m,en⟩
 refine d7 (fB (Ev.cast (nQ (G:=gTs T fun _ l ps v _=>v=.bl (ps.any fun p=>yK l p.2)) (aB (cA (aa (i:=0) rfl) h) (aB (aa (i:=1) (v:=.ref l) rfl) aV)) fun H1 s1=>⟨A.dj,l,A.L,ps,rfl,(h.up s1).jobs,(h.up s1).job,h.Mw,vY _ _ _ s1 ht,hin,hz,rfl⟩) (by rw[h.js]))) (fun q=>aU (aJ.cast ?_)) fun q=>aU (aJ.cast ?_)
 ·unfold lO
  rw[Jh (f:=fun t=>!jP t) g1,if_neg Bool.false_ne_true,Jh (f:=fun t=>!vB s.jobs t) g2,if_neg Bool.false_ne_true,yV,q,if_pos rfl]
 ·unfold lO
  rw[Jh (f:=fun t=>!jP t) g1,if_neg Bool.false_ne_true,Jh (f:=fun t=>!vB s.jobs t) g2,if_neg Bool.false_ne_true,yV,q,if_neg Bool.false_ne_true]
end
end Jq
end
section
set_option Elab.async false
set_option linter.all false
set_option maxRecDepth 100000
set_option maxHeartbeats 1000000
namespace Jq
open PySem PySem.Spec PyProof.Rows L2
def GF(s:Vbbhaj.State)(n:Int):Int:=if fO s n=0 then (match Vbbhaj.jobAt s n with | some j=>if Vbbhaj.isWaiting j=true then 0 else -6 | none=>0)else fO s n
theorem yo{s:Vbbhaj.State}{n:Int}{f:Vbbhaj.Job→Vbbhaj.State×Vbbhaj.Ans}(h:GF s n≠0):Vbbhaj.onWaiting s n f=(s,{num:=GF s n}):=by
 unfold GF at h ⊢
 have e:Vbbhaj.onWaiting s n f=Vbbhaj.onJob s n fun j=>if Vbbhaj.isWaiting j=true then f j else Vbbhaj.no s 6:=rfl
 rw[e]
 by_cases h1:fO s n=0
 ·rw[if_pos h1]at h ⊢
  obtain⟨j,ej,hf⟩:=rJ h1
  rw[hf]
  simp only[ej]at h ⊢
  by_cases h2:Vbbhaj.isWaiting j=true
  ·rw[if_pos h2]at h;exact absurd rfl h
  ·rw[if_neg h2,if_neg h2];rfl
 ·rw[if_neg h1]
  exact z8 h1
theorem wz{s:Vbbhaj.State}{n:Int}(h:GF s n=0):∃j,Vbbhaj.jobAt s n=some j∧Vbbhaj.isWaiting j=true∧∀f:Vbbhaj.Job→Vbbhaj.State×Vbbhaj.Ans,Vbbhaj.onWaiting s n f=f j:=by
 unfold GF at h
 by_cases h1:fO s n=0
 ·rw[if_pos h1]at h
  obtain⟨j,ej,hf⟩:=rJ h1
  simp only[ej]at h
  by_cases h2:Vbbhaj.isWaiting j=true
  ·refine⟨j,ej,h2,fun f=>?_⟩
   have e:Vbbhaj.onWaiting s n f=Vbbhaj.onJob s n fun j=>if Vbbhaj.isWaiting j=true then f j else Vbbhaj.no s 6:=rfl
   rw[e,hf,if_pos h2]
  ·rw[if_neg h2]at h;exact absurd h (by decide)
 ·rw[if_neg h1]at h;exact absurd h h1
def qi(n:Int)(xs:List Int):Int:=if Vbbhaj.isInit n=false then -1 else if Vbbhaj.areClasses xs=false then -2 else 0
def uf(s:Vbbhaj.State)(n:Int):Int:=if Vbbhaj.isInit n=false then -1 else if (Vbbhaj.initAt s n).on=false then -3 else 0
def mW(s:Vbbhaj.State)(n:Int):Int:=if uf s n=0 then (if (Vbbhaj.initAt s n).job≠0 then -5 else 0)else uf s n
def qg(s:Vbbhaj.State)(n:Int):Int:=if Vbbhaj.isInit n=false then -1 else if (Vbbhaj.initAt s n).job=0 then -3 else 0
section
variable {P:Program}{w:World}{K:PySem.W.Frag}{mg:Str→Option Value}{base:Heap}
variable {σ:St}{H:Hp}{ta tb tc td:TE}{a:Addr}{j:Vbbhaj.Job}{A:Ad}{s:Vbbhaj.State}{T:Txt K mg}
def ZM(T:Txt K mg)(f:Vbbhaj.State→Int→Int):GT:=fun vs H R=>∃A s n,vs=[.ref A.b,.int n]∧Rep T H A s∧Inv s∧R=fun v _=>v=.int (f s n)
theorem uo{f:Vbbhaj.State→Int→Int}{n:Int}(ha:Ev ta σ H (.ref A.b))(hb:Ev tb σ H (.int n))(h:Rep T H A s)(iv:Inv s):Ev (fH (ro (ZM T f)) [] E0 (bw ta (bw tb eV))) σ H (.int (f s n)) :=
 nQ (aB ha (aB hb aV)) fun H1 s1=>⟨A,s,n,rfl,h.up s1,iv,rfl⟩
theorem gZ(T:Txt K mg):bD P w K mg base CX0 3 T.bO.f T.bO.fd ["board","number"] (ro (ZM T GF)):=by
 refine cO T.bO.F mY (fun vs H R ⟨_,_,_,e,_⟩=>by rw[e];rfl) fun cdv A outer s H E hr=>?_
 have hu:=d9 hr
 refine⟨_,(ak (bu (i:=2) mY.nd rfl (Or.inl rfl) (aK T.cQ (iB T) (by exact hr.mono (by decide)) rfl (aj (pv 0) (aj (pv 1) aq))))
   (ak (a_ (aR ju (pv 2) (bz T.aW rfl) (aQ _)) (az (aC (pv 2))) aL)
   (ak (a_ (aR ju (aD (K:=K) (cM (by exact hu) (aD (K:=K) (pv 0) rfl) (pv 1) (fun _ _=>rfl)) rfl) (bz T.l_ rfl) (aQ _)) (az (aC (bz T.rP rfl))) aL)
   (az (aC (bz T.aW rfl)))))),?_⟩
 rintro vs R ⟨A,s,n,rfl,h,iv,rfl⟩
 refine pL (xn (aa rfl) (aa rfl) h) ?_
 refine d7 (aP (fM (aa rfl) aJ)) (fun q=>aU ((aa rfl).cast ?_)) fun q=>?_
 ·unfold GF
  rw[if_neg (u_.mp (jr q))]
 have q:fO s n=0:=by simpa using q
 obtain⟨j,hj,hf⟩:=rJ q
 obtain⟨a,m,e⟩:=h.pair hj
 refine d7 (aP ((fM (jF (h.get (cA (aa rfl) h) (aa rfl) m e) (h.job _ m)) aJ).cast (w:=.bl (!Vbbhaj.isWaiting j)) (by rw[DW]))) (fun q2=>aU (aJ.cast ?_)) fun q2=>aU (aJ.cast ?_)
 ·unfold GF
  rw[if_pos q,hj]
  show _=V.int (if Vbbhaj.isWaiting j=true then 0 else -6)
  rw[jr q2]
  rfl
 ·unfold GF
  rw[if_pos q,hj]
  show _=V.int (if Vbbhaj.isWaiting j=true then 0 else -6)
  rw[nU q2]
  rfl
def J1:GT:=fun vs H R=>∃n l xs,vs=[.int n,.ref l]∧H l=some (.lst (xs.map V.int))∧xs.length≤400∧R=fun v _=>v=.int (qi n xs)
theorem u9(T:Txt K mg):bD P w K mg base CX0 3 T.dY.f T.dY.fd ["number","classes"] (ro J1):=by
 refine cO T.dY.F Du (fun vs H R ⟨_,_,_,e,_⟩=>by rw[e];rfl) fun cdv A outer s H E hr=>⟨_,(ak (a_ (cD (bJ (aK T.dX (n_ T) (by exact hr.mono (by decide)) rfl (aj (pv 0) aq)))) (az (aC (bz T.bH rfl))) aL)
   (ak (a_ (cD (bJ (aK T.g_ (Gw T) (by exact hr.mono (by decide)) rfl (aj (pv 1) aq)))) (az (aC (bz T.xV rfl))) aL)
   (az (aC (bz T.aW rfl))))),?_⟩
 rintro vs R ⟨n,l,xs,rfl,h,hz,rfl⟩
 refine d7 (cC (fB (iY (aa rfl)))) (fun q=>aU (aJ.cast ?_)) fun q=>?_
 ·unfold qi
  rw[if_pos (show Vbbhaj.isInit n=false from jr q)]
 have q1:Vbbhaj.isInit n=true:=nU q
 refine d7 (cC (fB (P_ ((aa rfl).toL h) hz))) (fun q=>aU (aJ.cast ?_)) fun q=>aU (aJ.cast ?_)
 ·unfold qi
  rw[if_neg (nF q1),if_pos (jr q)]
 ·unfold qi
  rw[if_neg (nF q1),if_neg (nF (nU q))]
theorem sS(T:Txt K mg):bD P w K mg base CX0 2 T.dq.f T.dq.fd ["board","number"] (ro (ZM T uf)):=by
 refine cO T.dq.F Ae (fun vs H R ⟨_,_,_,e,_⟩=>by rw[e];rfl) fun cdv A outer s H E hr=>?_
 have hu:=d9 hr
 refine⟨_,(ak (a_ (cD (bJ (aK T.dX (n_ T) (by exact hr.mono (by decide)) rfl (aj (pv 1) aq)))) (az (aC (bz T.bH rfl))) aL)
   (ak (a_ (cD (bJ (aD (K:=K) (cM (by exact hu) (aD (K:=K) (pv 0) rfl) (pv 1) (fun _ _=>rfl)) rfl))) (az (aC (bz T.kO rfl))) aL)
   (az (aC (bz T.aW rfl))))),?_⟩
 rintro vs R ⟨A,s,n,rfl,h,iv,rfl⟩
 refine d7 (cC (fB (iY (aa rfl)))) (fun q=>aU (aJ.cast ?_)) fun q=>?_
 ·unfold uf
  rw[if_pos (show Vbbhaj.isInit n=false from jr q)]
 have q1:Vbbhaj.isInit n=true:=nU q
 obtain⟨a,i1,i2,i3⟩:=iZ h iv.g q1
 refine d7 (cC (fB (Iu (fK (bU (aa rfl) h) (aa rfl) h.ini i2) i3))) (fun q=>aU (aJ.cast ?_)) fun q=>aU (aJ.cast ?_)
 ·unfold uf
  rw[if_neg (nF q1),if_pos (jr q)]
 ·unfold uf
  rw[if_neg (nF q1),if_neg (nF (nU q))]
theorem p8(T:Txt K mg):bD P w K mg base CX0 3 T.cX.f T.cX.fd ["board","number"] (ro (ZM T mW)):=by
 refine cO T.cX.F qm (fun vs H R ⟨_,_,_,e,_⟩=>by rw[e];rfl) fun cdv A outer s H E hr=>?_
 have hu:=d9 hr
 refine⟨_,(ak (bu (i:=2) qm.nd rfl (Or.inl rfl) (aK T.dq (sS T) (by exact hr.mono (by decide)) rfl (aj (pv 0) (aj (pv 1) aq))))
   (ak (a_ (aR ju (pv 2) (bz T.aW rfl) (aQ _)) (az (aC (pv 2))) aL)
   (ak (a_ (aR ju (aD (K:=K) (cM (by exact hu) (aD (K:=K) (pv 0) rfl) (pv 1) (fun _ _=>rfl)) rfl) aH (aQ _)) (az (aC (bz T.jA rfl))) aL)
   (az (aC (bz T.aW rfl)))))),?_⟩
 rintro vs R ⟨A,s,n,rfl,h,iv,rfl⟩
 refine pL (uo (aa rfl) (aa rfl) h iv) ?_
 refine d7 (aP (fM (aa rfl) aJ)) (fun q=>aU ((aa rfl).cast ?_)) fun q=>?_
 ·unfold mW
  rw[if_neg (by simpa using jr q)]
 have q:uf s n=0:=by simpa using q
 have q1:Vbbhaj.isInit n=true:=by
  unfold uf at q
  cases e:Vbbhaj.isInit n with
  |true=>rfl
  |false=>rw[if_pos e]at q;exact absurd q (by decide)
 obtain⟨a,i1,i2,i3⟩:=iZ h iv.g q1
 refine d7 (aP (fM (mJ (fK (bU (aa rfl) h) (aa rfl) h.ini i2) i3) aJ)) (fun q2=>aU (aJ.cast ?_)) fun q2=>aU (aJ.cast ?_)
 ·unfold mW
  rw[if_pos q,if_pos (by have:=jr q2;simp at this;exact this)]
 ·unfold mW
  rw[if_pos q,if_neg (by simpa using q2)]
theorem p7(T:Txt K mg):bD P w K mg base CX0 2 T.cW.f T.cW.fd ["board","number"] (ro (ZM T qg)):=by
 refine cO T.cW.F yu (fun vs H R ⟨_,_,_,e,_⟩=>by rw[e];rfl) fun cdv A outer s H E hr=>?_
 have hu:=d9 hr
 refine⟨_,(ak (a_ (cD (bJ (aK T.dX (n_ T) (by exact hr.mono (by decide)) rfl (aj (pv 1) aq)))) (az (aC (bz T.bH rfl))) aL)
   (ak (a_ (aR dm (aD (K:=K) (cM (by exact hu) (aD (K:=K) (pv 0) rfl) (pv 1) (fun _ _=>rfl)) rfl) aH (aQ _)) (az (aC (bz T.kO rfl))) aL)
   (az (aC (bz T.aW rfl))))),?_⟩
 rintro vs R ⟨A,s,n,rfl,h,iv,rfl⟩
 refine d7 (cC (fB (iY (aa rfl)))) (fun q=>aU (aJ.cast ?_)) fun q=>?_
 ·unfold qg
  rw[if_pos (show Vbbhaj.isInit n=false from jr q)]
 have q1:Vbbhaj.isInit n=true:=nU q
 obtain⟨a,i1,i2,i3⟩:=iZ h iv.g q1
 refine d7 (aP (bY (mJ (fK (bU (aa rfl) h) (aa rfl) h.ini i2) i3) aJ)) (fun q2=>aU (aJ.cast ?_)) fun q2=>aU (aJ.cast ?_)
 ·unfold qg
  rw[if_neg (nF q1),if_pos (by simpa using q2)]
 ·unfold qg
  rw[if_neg (nF q1),if_neg (by simpa using q2)]
def full(s:Vbbhaj.State):Bool:=decide ((s.cap:Int)≤(s.jobs.length:Int))||decide ((999999:Int)≤(s.next:Int) - 1)
def acj(T:Txt K mg):GT:=fun vs H R=>∃A s,vs=[.ref A.b]∧Rep T H A s∧R=fun v _=>v=.bl (full s)
theorem Vq(T:Txt K mg):bD P w K mg base CX0 1 T.ux.f T.ux.fd ["board"] (ro (acj T)):=by
 refine cO T.ux.F V3 (fun vs H R ⟨_,_,e,_⟩=>by rw[e];rfl) fun cdv A outer s H E hr=>⟨_,(az (aC (acw (fL W3 (bR Nq rfl T.jo fX (aj (aD (K:=K) (pv 0) rfl) aq)) (aD (K:=K) (pv 0) rfl) (aQ _)) (wC (fL W3 (aD (K:=K) (pv 0) rfl) (bz T.xW rfl) (aQ _)))))),?_⟩
 rintro vs R ⟨A,s,rfl,h,rfl⟩
 have e1:(qU A.L).length=s.jobs.length:=by rw[← h.js];unfold qU;rw[List.length_map,List.length_map]
 exact aU ((ach (eY ((Ww (cA (aa rfl) h) h.jobs).cast (w:=.int (s.jobs.length:Nat)) (by rw[e1])) (Zv (aa rfl) h)) fun _=>eY (xj (aa rfl) h) aJ).cast rfl)
def trips(ts:List Int):List (Int×Int×Int):=(List.range (ts.length / 3)).map (wO ts)
def m_(s:Vbbhaj.State)(c p h:Int)(xs ts:List Int):Int :=
 if (!Vbbhaj.isClass c||(!Vbbhaj.inside p 0 15||!Vbbhaj.inside h 0 1))=true then -1 else if (!nm xs||!ql ts)=true then -2
 else if lO s.jobs (trips ts)=0 then (if full s=true then -8 else 0)else lO s.jobs (trips ts)
def WQ(T:Txt K mg):GT:=fun vs H R=>∃A s c p h nl rl xs ts,vs=[.ref A.b,.int c,.int p,.int h,.ref nl,.ref rl]∧Rep T H A s∧H nl=some (.lst (xs.map V.int))∧xs.length≤100000∧H rl=some (.lst (ts.map V.int))∧ts.length≤400∧R=fun v _=>v=.int (m_ s c p h xs ts)
theorem Xb{ts:List Int}(h:ql ts=true):ts.length=3 * (ts.length / 3)∧ts.length / 3≤8:=by
 unfold ql at h
 simp only[Bool.and_eq_true,decide_eq_true_eq]at h
 omega
theorem zY(T:Txt K mg):bD P w K mg base CX0 4 T.eU.f T.eU.fd ["board","class_of","priority","held","name","row"] (ro (WQ T)):=by
 refine cO T.eU.F sV (fun vs H R ⟨_,_,_,_,_,_,_,_,_,e,_⟩=>by rw[e];rfl) fun cdv A outer s H E hr=>?_
 have hu:=d9 hr
 refine⟨_,(ak (a_ (PW.pt (HF (cD (bJ (aK T.fY (lM T) (by exact hr.mono (by decide)) rfl (aj (pv 1) aq)))) (HF (cD (bJ (aK T.iK (zV T) (by exact hr.mono (by decide)) rfl (aj (pv 2) aq)))) (GC (cD (bJ (aK T.gJ (yN T) (by exact hr.mono (by decide)) rfl (aj (pv 3) aq)))))))) (az (aC (bz T.bH rfl))) aL)
   (ak (a_ (PW.pt (HF (cD (bJ (aK T.uz (Vr T) (by exact hr.mono (by decide)) rfl (aj (pv 4) aq)))) (GC (cD (bJ (aK T.fV (Dg T) (by exact hr.mono (by decide)) rfl (aj (pv 5) aq))))))) (az (aC (bz T.xV rfl))) aL)
   (ak (bu (i:=6) sV.nd rfl (Or.inl rfl) (aK T.fu (BK T) (by exact hr.mono (by decide)) rfl (aj (pv 0) (aj (aK T.iM (zZ T) (by exact hr.mono (by decide)) rfl (aj (pv 5) aq)) aq))))
   (ak (a_ (aR ju (pv 6) (bz T.aW rfl) (aQ _)) (az (aC (pv 6))) aL)
   (ak (a_ (bJ (aK T.ux (Vq T) (by exact hr.mono (by decide)) rfl (aj (pv 0) aq))) (az (aC (bz T.Av rfl))) aL)
   (az (aC (bz T.aW rfl)))))))),?_⟩
 rintro vs R ⟨A,s,c,p,h,nl,rl,xs,ts,rfl,hb,hn,hnz,hrw,hrz,rfl⟩
 refine d7 (Ht (cC (fB (iY (aa rfl)))) fun _=>Ht (cC (fB (iY (aa rfl)))) fun _=>cC (fB (iY (aa rfl)))) (fun q=>aU (aJ.cast ?_)) fun q=>?_
 ·unfold m_
  rw[if_pos (show(!Vbbhaj.isClass c||(!Vbbhaj.inside p 0 15||!Vbbhaj.inside h 0 1))=true from q)]
 refine d7 (Ht (cC (fB (P_ ((aa rfl).toL hn) hnz))) fun _=>cC (fB (P_ ((aa rfl).toL hrw) (by omega)))) (fun q2=>aU (aJ.cast ?_)) fun q2=>?_
 ·unfold m_
  rw[if_neg (by rw[show(!Vbbhaj.isClass c||(!Vbbhaj.inside p 0 15||!Vbbhaj.inside h 0 1))=false from q];exact Bool.false_ne_true),if_pos q2]
 have q0:¬(!Vbbhaj.isClass c||(!Vbbhaj.inside p 0 15||!Vbbhaj.inside h 0 1))=true:=by rw[show(!Vbbhaj.isClass c||(!Vbbhaj.inside p 0 15||!Vbbhaj.inside h 0 1))=false from q];exact Bool.false_ne_true
 have q3:¬(!nm xs||!ql ts)=true:=by rw[q2];exact Bool.false_ne_true
 have q4:ql ts=true:=by cases e:ql ts<;>simp_all
 obtain⟨n1,n2⟩:=Xb q4
 have sp:EvP _ (start ["board","class_of","priority","held","name","row","refusal"] [V.ref A.b,.int c,.int p,.int h,.ref nl,.ref rl]) H (fun v H'=>∃ps,ps.map (·.2)=trips ts∧Bu H' ps v) :=
  U3 (G:=Qi) (aB (aa (i:=5) (v:=.ref rl) rfl) aV) fun H1 s1=>⟨_,⟨rl,ts,ts.length / 3,rfl,s1 _ _ hrw,n1,n2,rfl⟩,fun v H' ⟨ps,e1,e2,_⟩=>⟨ps,e1,e2⟩⟩
 refine pL (v:=.int (lO s.jobs (trips ts))) (P0 (JN (aa rfl) sp (fun v H1 H2 s1 ⟨ps,e1,e2⟩=>⟨ps,e1,vY _ _ _ s1 e2⟩)) fun vs H1 s1 ⟨v,e,ps,e1,e2⟩=>?_) ?_
 ·obtain⟨l,rfl,_⟩:=id e2
  refine⟨A,s,l,ps,e,hb.up s1,e2,?_,by rw[e1]⟩
  have:=congrArg List.length e1
  unfold trips at this
  rw[List.length_map,List.length_map,List.length_range]at this
  omega
 refine d7 (aP (fM (aa rfl) aJ)) (fun q=>aU ((aa rfl).cast ?_)) fun q=>?_
 ·unfold m_
  rw[if_neg q0,if_neg q3,if_neg (by simpa using jr q)]
 have q5:lO s.jobs (trips ts)=0:=by simpa using q
 refine d7 (fB (Ev.cast (nQ (G:=acj T) (aB (aa rfl) aV) fun H1 s1=>⟨A,s,rfl,hb.up s1,rfl⟩) rfl)) (fun q=>aU (aJ.cast ?_)) fun q=>aU (aJ.cast ?_)
 ·unfold m_
  rw[if_neg q0,if_neg q3,if_pos q5,if_pos q]
 ·unfold m_
  rw[if_neg q0,if_neg q3,if_pos q5,if_neg (by rw[q];exact Bool.false_ne_true)]
end
end Jq
end
section
set_option Elab.async false
set_option linter.all false
set_option maxRecDepth 100000
set_option maxHeartbeats 1000000
namespace Jq
open PySem PySem.Spec PyProof.Rows L2
section
variable {P:Program}{w:World}{K:PySem.W.Frag}{mg:Str→Option Value}{base:Heap}
variable {σ:St}{H:Hp}{ta tb tc td:TE}{a:Addr}{j:Vbbhaj.Job}{A:Ad}{s:Vbbhaj.State}{T:Txt K mg}
def lets(s:Vbbhaj.State)(c:Nat):Bool:=!(Vbbhaj.classAt s c).closed&&decide (Vbbhaj.runningIn s c<(Vbbhaj.classAt s c).limit)
def ack(T:Txt K mg):GT:=fun vs H R=>∃A s c l,vs=[.ref A.b,.int c,.ref l]∧Rep T H A s∧Inv s∧Vbbhaj.isClass c=true∧H l=some (.lst (refs (A.L.filter fun q=>Vbbhaj.isRunning q.2)))∧R=fun v _=>v=.bl (lets s c.toNat)
theorem zX(T:Txt K mg):bD P w K mg base CX0 2 T.eQ.f T.eQ.fd ["board","class_of","running"] (ro (ack T)):=by
 refine cO T.eQ.F Ac (fun vs H R ⟨_,_,_,_,e,_⟩=>by rw[e];rfl) fun cdv A outer s H E hr=>?_
 have hu:=d9 hr
 refine⟨_,(az (aC (wB (aaC (cM (by exact hu) (aD (K:=K) (pv 0) rfl) (pv 1) (fun _ _=>rfl))) (wC (fL ad0 (aK T.cz (iz T) (by exact hr.mono (by decide)) rfl (aj (pv 2) (aj (pv 1) aq))) (cM (by exact hu) (aD (K:=K) (pv 0) rfl) (pv 1) (fun _ _=>rfl)) (aQ _)))))),?_⟩
 rintro vs R ⟨A,s,c,l,rfl,h,iv,hc,hl,rfl⟩
 refine aU ((vU (ZC (fK (vI (aa rfl) h) (aa rfl) h.clo (h.closed iv.g hc))) fun _=>eY ((Ei ((aa rfl).toL hl) (h.vW _) (h.JW _) (aa rfl)).cast (w:=.int (Vbbhaj.runningIn s c.toNat)) (by rw[PL h.js _ hc];rfl)) (fK (zx (aa rfl) h) (aa rfl) h.lim (h.limit iv.g hc))).cast ?_)
 show V.bl (_&&_)=V.bl (lets s c.toNat)
 unfold lets
 congr 2
 rw[Bool.eq_iff_iff]
 simp
def nameOf(H:Hp)(a:Addr):Addr:=match H a with
 |some (.ins _ _ fs)=>(match fs.lookup ("name" : Str)with
  |some (.ref n)=>n
  |_=>0)
 |_=>0
theorem CW(h:cT T H a j):Je H (nameOf H a) j.name∧∀{ta:TE} {σ:St},Ev ta σ H (.ref a)→Ev (km K ta "name") σ H (.ref (nameOf H a)):=by
 obtain⟨dx,na,tt,e,n,t⟩:=h
 have q:nameOf H a=na:=by
  unfold nameOf
  rw[e]
  show(match (jv j na tt).fs.lookup ("name" : Str)with | some (.ref n)=>n | _=>0)=na
  rw[JV.Vg]
  rfl
 rw[q]
 exact⟨n,fun ha=>bZ ha e T.bQ T.uN (JV.Vg _)⟩
def bInts(b:Vbbhaj.Bytes):List Int:=b.map fun c=>(c.toNat:Int)
theorem Wn(b:Vbbhaj.Bytes):(b.map fun c=>V.int c.toNat)=(bInts b).map V.int:=by unfold bInts;rw[List.map_map];rfl
theorem Ni:∀{a b:Vbbhaj.Bytes},bInts a=bInts b→a=b
 |[],[],_=>rfl
 |[],_::_,h=>by cases h
 |_::_,[],h=>by cases h
 |x::a,y::b,h=>by
  have h1:(x.toNat:Int)=y.toNat:=(List.cons.inj h).1
  have h2:x=y:=UInt8.toNat_inj.mp (by omega)
  rw[h2,Ni (List.cons.inj h).2]
theorem abE{c:Nat}{l:List Nat}:inV (.int c) (l.map fun n:Nat=>V.int n)=l.contains c:=by
 unfold inV
 rw[List.any_map]
 rw[List.contains_eq_any_beq]
 congr 1
 funext x
 show((x:Int)==(c:Int))=(c==x)
 rw[Bool.eq_iff_iff]
 simp
 omega
def WM(T:Txt K mg):GT:=fun vs H R=>∃A s a x,vs=[.ref A.b,.ref a]∧Rep T H A s∧Inv s∧nJ T H a x∧(∀c∈x.classes,Vbbhaj.isClass (c:Int)=true)∧x.classes.length≤8∧R=IsL (refs (A.L.filter fun q=>Vbbhaj.free s x q.2))
theorem free_eq{s:Vbbhaj.State}{x:Vbbhaj.Init}{j:Vbbhaj.Job}:(Vbbhaj.ready j&&((x.classes.filter (lets s)).contains j.cls&&!((s.jobs.filter Vbbhaj.isRunning).any fun k=>decide (bInts k.name=bInts j.name))))=Vbbhaj.free s x j:=by
 unfold Vbbhaj.free
 congr 1
 have e1:((s.jobs.filter Vbbhaj.isRunning).any fun k=>decide (bInts k.name=bInts j.name))=s.jobs.any fun k=>Vbbhaj.isRunning k&&k.name==j.name:=by
  rw[List.any_filter]
  congr 1
  funext k
  congr 1
  rw[Bool.eq_iff_iff]
  simp
  exact⟨Ni,fun e=>by rw[e]⟩
 rw[e1]
 have e2:(x.classes.filter (lets s)).contains j.cls=(x.classes.contains j.cls&&lets s j.cls):=by
  rw[Bool.eq_iff_iff]
  simp[List.mem_filter]
 rw[e2]
 unfold lets
 cases x.classes.contains j.cls<;>cases (Vbbhaj.classAt s j.cls).closed<;>simp
theorem Ex(T:Txt K mg):bD P w K mg base CX0 3 T.kY.f T.kY.fd ["board","initiator"] (ro (WM T)):=by
 refine cO T.kY.F dC (fun vs H R ⟨_,_,_,_,e,_⟩=>by rw[e];rfl) fun cdv A outer s H E hr=>?_
 have hu:=d9 hr
 have hu65:=abz hr
 refine⟨_,(ak (bu (i:=2) dC.nd rfl (Or.inr rfl) (aK T.dZ (oh T) (by exact hr.mono (by decide)) rfl (aj (pv 0) aq)))
   (ak (bu (i:=3) dC.nd rfl (Or.inr rfl) (ue (own:=[("class_of",6)]) rfl dC.nd (cY (aD (K:=K) (pv 1) rfl)) (cF (by show qI ["board","initiator","running","classes","names","ready","class_of","job"] (aA jL) _ _=true;decide +kernel)) (fun _ _ _ _ _=>(bL (i:=6) dC.nd rfl (Or.inl rfl))) (fun _ _ _ _ _=>(jK (bJ (aK T.eQ (zX T) (by exact hr.mono (by decide)) rfl (aj (pv 0) (aj (pv 6) (aj (pv 2) aq))))))) (fun _ _ _ _ _=>(pv 6))))
   (ak (bu (i:=4) dC.nd rfl (Or.inr rfl) (ue (own:=[("job",7)]) rfl dC.nd (cY (pv 2)) (cF (by show qI ["board","initiator","running","classes","names","ready","class_of","job"] (aA jL) _ _=true;decide +kernel)) (fun _ _ _ _ _=>(bL (i:=7) dC.nd rfl (Or.inl rfl))) (fun _ _ _ _ _=>yp) (fun _ _ _ _ _=>(aD (K:=K) (pv 7) rfl))))
   (ak (xH (i:=5) (own:=[("job",7)]) rfl dC.nd rfl rfl (Bp rfl rfl rfl (by decide +kernel)) (cY (aK T.gH (pH T) (by exact hr.mono (by decide)) rfl (aj (pv 0) aq))) (cF (by show qI ["board","initiator","running","classes","names","ready","class_of","job"] (aA jL) _ _=true;decide +kernel)) (fun _ _ _ _ _=>(bL (i:=7) dC.nd rfl (Or.inl rfl))) (fun _ _ _ _ _=>(jK (bJ (aK T.lg (zW T) (by exact hr.mono (by decide)) rfl (aj (pv 7) aq))))) (fun _ _ _ _ _=>(pv 7)))
   (az (aC (ue (own:=[("job",7)]) rfl dC.nd (cY (pv 5)) (cF (by show qI ["board","initiator","running","classes","names","ready","class_of","job"] (aA jL) _ _=true;decide +kernel)) (fun _ _ _ _ _=>(bL (i:=7) dC.nd rfl (Or.inl rfl))) (fun _ _ _ _ _=>(jK (PW.pt (KD (aR (Vw (K:=K)) (aD (K:=K) (pv 7) rfl) (pv 3) (by with_unfolding_all rfl)) (Fe (aR (MT (by exact hu65)) (aD (K:=K) (pv 7) rfl) (pv 4) (by with_unfolding_all rfl))))))) (fun _ _ _ _ _=>(pv 7))))))))),?_⟩
 rintro vs R ⟨A,s,a,x,rfl,h,iv,hx,hc,few,rfl⟩
 refine CK (uq (aa rfl) h) ?_
 rintro v H1 s1 ⟨l1,rfl,hl1⟩
 have h1:=h.up s1
 refine CK (jY (K:=K) (k:=6) (ys:=x.classes) (fun c:Nat=>V.int c) (lets s) (fun c:Nat=>V.int c) (yc (aa rfl) (hx.up s1)) (eZ (by omega)) (fun c hcm=>?_) (fun y hy _=>aa rfl)) ?_
 ·exact fB (Ev.cast (nQ (G:=ack T) (aB (aa rfl) (aB (aa rfl) (aB (aa (v:=.ref l1) rfl) aV))) fun H2 s2=>⟨A,s,(c:Int),l1,rfl,h1.up s2,iv,hc c hcm,s2 _ _ hl1,rfl⟩) rfl)
 rintro v H2 s2 ⟨l2,rfl,hl2⟩
 have h2:=h1.up s2
 refine CK (jY (K:=K) (k:=7) (ys:=A.L.filter fun q=>Vbbhaj.isRunning q.2) (fun p=>V.ref p.1) (fun _=>true) (fun p=>V.ref (nameOf H2 p.1)) ((aa rfl).toL (s2 _ _ hl1)) (eZ (h.JW _)) (fun y hy=>PX) (fun y hy _=>(CW (h2.vW _ y hy)).2 (aa rfl))) ?_
 rintro v H3 s3 ⟨l3,rfl,hl3⟩
 have h3:=h2.up s3
 rw[filter_true']at hl3
 refine CK (jY (K:=K) (k:=7) (ys:=A.L) (fun p=>V.ref p.1) (fun p=>Vbbhaj.ready p.2) (fun p=>V.ref p.1) (Gi (aa rfl) h3) (eZ h.Qq) (fun y hy=>fB (n6 (aa rfl) (h3.job y hy))) (fun y hy _=>aa rfl)) ?_
 rintro v H4 s4 ⟨l4,rfl,hl4⟩
 have h4:=h3.up s4
 have cl:H4 l2=some (.lst ((x.classes.filter (lets s)).map fun c:Nat=>V.int c)):=s4 _ _ (s3 _ _ hl2)
 refine aU (EvL.cast (jY (K:=K) (k:=7) (ys:=A.L.filter fun q=>Vbbhaj.ready q.2) (fun p=>V.ref p.1) (fun p=>(x.classes.filter (lets s)).contains p.2.cls&&!((s.jobs.filter Vbbhaj.isRunning).any fun k=>decide (bInts k.name=bInts p.2.name))) (fun p=>V.ref p.1) ((aa rfl).toL hl4) (eZ (h.JW _)) (fun y hy=>?_) (fun y hy _=>aa rfl)) ?_)
 ·have jy:=h4.vW _ y hy
  have nj:=CW jy
  refine JR (aP ((adQ (nR (aa rfl) jy) ((aa rfl).toL cl) rfl ?_).cast (by rw[abE]))) fun _=>aP ?_
  ·rw[List.all_map]
   simp[t_]
  ·have hn:H4 (nameOf H4 y.1)=some (.lst ((bInts y.2.name).map V.int)):=by rw[← Wn];exact nj.1
   refine Ny (nj.2 (aa rfl)) (aa (v:=.ref l3) rfl) fun H5 Q s5 kk=>⟨nameOf H4 y.1,l3,bInts y.2.name,(A.L.filter fun q=>Vbbhaj.isRunning q.2).map fun p=>(nameOf H2 p.1,bInts p.2.name),rfl,rfl,s5 _ _ hn,?_,?_,?_⟩
   ·rw[List.map_map]
    exact s5 _ _ (s4 _ _ hl3)
   ·intro r hr
    obtain⟨p,hp,rfl⟩:=List.mem_map.mp hr
    have:=(CW (h2.vW _ p hp)).1
    have this:H2 (nameOf H2 p.1)=some (.lst ((bInts p.2.name).map V.int)):=by rw[← Wn];exact this
    exact s5 _ _ (s4 _ _ (s3 _ _ this))
   ·refine kk _ H5 (aY.refl _) ?_
    congr 2
    rw[List.any_map,← h.js,List.filter_map,List.any_map]
    rfl
 ·rw[List.filter_filter]
  unfold refs
  congr 1
  refine List.filter_congr fun p _=>?_
  rw[Bool.and_comm]
  exact free_eq
end
end Jq
end
section
set_option Elab.async false
set_option linter.all false
set_option maxRecDepth 100000
set_option maxHeartbeats 1000000
namespace Jq
open PySem PySem.Spec PyProof.Rows L2
section
variable {σ:St}{H:Hp}{sp:Sp}{u:TA}{D:Ends}{vs:List V}
theorem w_call{Q:VK}(ha:Bs u σ H vs)(k:∀H',aY H H'→sp vs H' Q E0):fH sp [] E0 u σ H Q:=ha H (aY.refl _) _ fun us H' s e=>by
 subst e
 show sp (us++[]) H' Q E0
 rw[List.append_nil]
 exact k H' s
theorem cU{c:TT}{t r:TS}{b:Bool}(h:EvT c σ H b)(k1:b=true→∀H',aY H H'→t {D with nx:=r D} σ H')(k2:b=false→∀H',aY H H'→r D σ H'):nH (YZ c t Tw) r D σ H:=h H (aY.refl _) _ fun H' s=>by
 cases b with
 |true=>exact Ig (k1 rfl H' s)
 |false=>exact Ie (k2 rfl H' s)
theorem pA(ha:Bs u σ H vs)(k:∀H',aY H H'→sp vs H' (fun _ H1=>D.nx σ H1) E0):Oj (fH sp [] E0 u) D σ H:=w_call ha k
theorem Hh{i:Nat}(ha:Bs u σ H vs)(k:∀H',aY H H'→sp vs H' (fun v H1=>D.nx (σ.set i (some v)) H1) E0):Wd (fH sp [] E0 u) (uK i) D σ H:=w_call ha k
theorem mX(ha:Bs u σ H vs)(k:∀H',aY H H'→sp vs H' D.rt E0):Lq (fH sp [] E0 u) D σ H:=w_call ha k
theorem ye{xs:List V}(h:Bs u σ H xs)(hl:xs.length≤sizeLine):EvP (aa3 u) σ H (IsN H xs):=fun H1 s Q k =>
 h H1 s _ fun us H2 s2 e=>by
  subst e
  exact⟨hl,fun p hp=>k _ _ (fun b o q=>by rw[aO (bj (s2 _ _ q) hp)];exact s2 _ _ q) ⟨p,rfl,(s.trans s2).free hp,aX⟩⟩
theorem Hv{ta:TE}{a:Addr}{kvs:List (Key×V)}{ns:List Int}(ha:Ev ta σ H (.ref a))(e:H a=some (.dK kvs))(hk:kvs.map (·.1)=ns.map (Sum.inl:Int→Key))(hs:ns.Pairwise (·<·)):EvP (tCB VN (bw ta eV)) σ H (IsN H (ns.map V.int)):=fun H1 s Q k =>
 ha H1 s _ fun x' H2 s2 q=>⟨a,kvs,ns,by rw[q],s2 _ _ (s _ _ e),hk,fun ns' p h1 h2 hp=>by
  rw[Gy h1 hs h2]
  exact k _ _ (s2.trans (jl hp)) ⟨p,rfl,(s.trans s2).free hp,aX⟩⟩
theorem XS{ta:TE}{a:Addr}{kvs:List (Key×V)}{ns:List Int}(ha:Ev ta σ H (.ref a))(e:H a=some (.dK kvs))(hk:kvs.map (·.1)=ns.map (Sum.inl:Int→Key)):EvP (tCB aaH (bw ta eV)) σ H (IsN H (ns.map V.int)):=fun H1 s Q k =>
 ha H1 s _ fun x' H2 s2 q=>⟨a,kvs,ns,by rw[q],s2 _ _ (s _ _ e),hk,fun p hp=>k _ _ (s2.trans (jl hp)) ⟨p,rfl,(s.trans s2).free hp,aX⟩⟩
theorem T5{K:PySem.W.Frag}{tl:TE}{g:TG}{tb:TS}{xs:List V}{R:V→Hp→Prop}(hl:EvP tl σ H R)(hR:∀v H',R v H'→IsL xs v H')
  (k:∀l H1,aY H H1→R (.ref l) H1→H1 l=some (.lst xs)→∃Pv:Nat→St→Hp→Prop,Pv 0 σ H1∧(∀i σ' H',i≤xs.length→Pv i σ' H'→H' l=some (.lst xs)) ∧
   (∀i x σ' H',xs[i]?=some x→Pv i σ' H'→g x σ' H' fun σ2 H2=>tb {D with nx:=Pv (i+1),ct:=Pv (i+1),bk:=D.nx} σ2 H2)∧∀σ' H',Pv xs.length σ' H'→D.nx σ' H'):aa2 (Nz K tl) g tb D σ H :=
 hl H (aY.refl _) _ fun v H1 s1 r=>by
  obtain⟨l,e,hl1⟩:=hR v H1 r
  subst e
  obtain⟨Pv,k0,k1,k2,k3⟩:=k l H1 s1 r hl1
  exact⟨l,rfl,⟨_,SqL.of hl1⟩,JX (K:=K) (a:=l) (xs:=xs) Pv k0 (fun i σ' H' hi p=>SqL.of (k1 i σ' H' hi p)) k2 k3⟩
theorem aei{td ty:TE}{d:Addr}{kvs:List (Key×V)}{n:Int}{v:V}(ha:Ev td σ H (.ref d))(hb:Ev ty σ H (.int n))(e:H d=some (.dK kvs))(q:kE kvs (Sum.inl n)=some v)
  (k:∀H',Kp d H H'→H' d=some (.dK (BP kvs (Sum.inl n)))→D.nx σ H'):Oj (aa1 td ty) D σ H :=
 Ev.use ha fun H1 s1=>⟨d,rfl,.inl ⟨kvs,.inl (s1 _ _ e)⟩,Ev.use (hb.up s1) fun H2 s2=>⟨kvs,Sum.inl n,v,s2 _ _ (s1 _ _ e),rfl,q,k _ (((s1.trans s2).kp d).trans (Kp.upd d H2 _)) aX⟩⟩
theorem T3{K:PySem.W.Frag}{to te:TE}{l:Addr}{xs:List V}{y:V}(ho:Ev to σ H (.ref l))(he:Ev te σ H y)(hl:H l=some (.lst xs))(hz:xs.length<sizeLine)
  (k:∀H',Kp l H H'→H' l=some (.lst (xs++[y]))→D.nx σ H'):Oj (tBM K "list" W_ to (bw te eV)) D σ H :=
 Ev.use ho fun H1 s1=>⟨.inl ⟨rfl,_,SqL.of (s1 _ _ hl)⟩,Ev.use (he.up s1) fun H2 s2=>⟨l,xs,y,rfl,rfl,s2 _ _ (s1 _ _ hl),hz,k _ (((s1.trans s2).kp l).trans (Kp.upd l H2 _)) aX⟩⟩
end
abbrev DT:=List V→Hp→Vbbhaj.Call→Prop
section
variable {P:Program}{w:World}{K:PySem.W.Frag}{mg:Str→Option Value}{base:Heap}
variable {σ:St}{H:Hp}{ta tb tc td:TE}{a:Addr}{j:Vbbhaj.Job}{A:Ad}{s:Vbbhaj.State}{T:Txt K mg}
def Done(T:Txt K mg)(X:Addr→Prop)(H:Hp)(A:Ad)(x:Vbbhaj.State×Vbbhaj.Ans)(Q:VK):Prop:=∀v H' A',Fix H H'→A'.b=A.b→RX T X H' A' x.1→IsL (vO x.2) v H'→Q v H'
def spC(T:Txt K mg)(D:DT):Sp:=fun vs H Q _=>∃X A s c rest,vs=.ref A.b::rest∧D rest H c∧RX T X H A s∧Inv s∧Done T X H A (Vbbhaj.step s c) Q
def dI(mk:Int→Vbbhaj.Call):DT:=fun r _ c=>∃n,r=[.int n]∧c=mk n
theorem Done.no{X:Addr→Prop}{x:Vbbhaj.State×Vbbhaj.Ans}{Q:VK}{n:Int}{H1:Hp}{v:V}(d:Done T X H A x Q)(h:RX T X H A s)(e:x=(s,{num:=n}))(s1:aY H H1)(l:IsL [.int n] v H1):Q v H1:=by
 subst e
 exact d v H1 A s1.fix rfl (h.up s1) l
theorem Done.go{X:Addr→Prop}{x:Vbbhaj.State×Vbbhaj.Ans}{Q:VK}{H':Hp}{A':Ad}{v:V}(d:Done T X H A x Q)(h:RX T X H' A' x.1)(eb:A'.b=A.b)(f:Fix H H')(l:IsL (vO x.2) v H'):Q v H':=d v H' A' f eb h l
theorem Kp.free{a l:Addr}{H H':Hp}{o o':HO}(k:Kp a H H')(e:H a=some o)(h:H' l=none)(e':H' a=some o'):H l=none:=by
 cases q:H l with
 |none=>rfl
 |some u =>
  by_cases z:l=a
  ·rw[z,e']at h;cases h
  ·rw[k l u q z]at h;cases h
theorem nZ{tv:TE}{D:Ends}{C dx:Addr}{fs:List (Str×V)}{f:Str}{R:V→Hp→Prop}(hv:EvP tv σ H R)(ha:Ev ta σ H (.ref a))(e:H a=some (.ins C dx fs))(c:Cls K C)(n:cJ K C f)(hl:fs.length<1000)
  (k:∀y H1 H',aY H H1→R y H1→Kp a H1 H'→H' a=some (.ins C dx (bK f y fs))→D.nx σ H'):adw K ta tv f D σ H :=
 EvP.use hv fun y H1 s1 r=>(Ev.use (ha.up s1) fun H2 s2=>⟨a,C,dx,fs,rfl,s2 _ _ (s1 _ _ e),c,n,hl,k y H1 _ s1 r ((s2.kp a).trans (Kp.upd a H2 _)) aX⟩)
def adA(T:Txt K mg):Sp:=fun vs H Q _=>∃a dx,∃(jv:JV) (st c:Int),vs=[.ref a,.int st,.int c]∧H a=some (.ins T.gU dx jv.fs) ∧
 ∀H' l,Kp a H H'→H l=none→H' l=some (.lst [])→H' a=some (.ins T.gU dx {jv with state:=st,code:=c,tests:=l,held:=false,sU:=0,zu:=0}.fs)→Q .non H'
theorem Cg(T:Txt K mg):bD P w K mg base CX0 1 T.jB.f T.jB.fd ["job","state","code"] (adA T):=by
 refine T.jB.F.ok M5 (fun vs H Q E ⟨_,_,_,_,_,e,_⟩=>by rw[e];rfl) fun cdv A outer s H vs Q E hr hsp=>⟨_,(ak (bG (pv 0) (pv 1) rfl)
   (ak (bG (pv 0) (pv 2) rfl)
   (ak (bG (pv 0) (bc aq) rfl)
   (ak (bG (pv 0) lN rfl)
   (ak (bG (pv 0) aH rfl)
   (az (bG (pv 0) aH rfl))))))),?_⟩
 obtain⟨a,dx,jv,st,c,rfl,e,k⟩:=hsp
 refine aN (bT (aa rfl) (aa rfl) e T.bQ T.lC (JV.few _) fun H1 k1 e1=>?_)
 dsimp only
 rw[JV.QC]at e1
 refine aN (bT (aa rfl) (aa rfl) e1 T.bQ T.uM (JV.few _) fun H2 k2 e2=>?_)
 dsimp only
 rw[JV.adm]at e2
 refine aN (nZ (ye aV (Nat.zero_le _)) (aa rfl) e2 T.bQ T.iy (JV.few _) ?_)
 rintro y H3 H4 s3 ⟨l,rfl,hl0,hl⟩ k4 e4
 dsimp only
 rw[JV.W5]at e4
 have hl4:H4 l=some (.lst []):=k4 _ _ hl (cB hl (s3 _ _ e2) (by intro z;cases z))
 refine aN (bT aJ (aa rfl) e4 T.bQ T.oH (JV.few _) fun H5 k5 e5=>?_)
 dsimp only
 rw[JV.Vy]at e5
 refine aN (bT aJ (aa rfl) e5 T.bQ T.eF (JV.few _) fun H6 k6 e6=>?_)
 dsimp only
 rw[JV.wA]at e6
 refine bT aJ (aa rfl) e6 T.bQ T.gP (JV.few _) fun H7 k7 e7=>?_
 rw[JV.Dk]at e7
 have kk:Kp a H4 H7:=k5.trans (k6.trans k7)
 exact k H7 l (k1.trans (k2.trans ((s3.kp a).trans (k4.trans kk)))) ((k1.trans k2).free e hl0 e2) (kk _ _ hl4 (cB hl4 e4 (by intro z;cases z))) e7
theorem cT.put{H H':Hp}{dx na ta:Addr}{j j':Vbbhaj.Job}(k:Kp a H H')(e0:H a=some (.ins T.gU dx (jv j na ta).fs))(n:Je H na j.name)(t:pK H ta j.tests)(e:H' a=some (.ins T.gU dx (jv j' na ta).fs))(en:j'.name=j.name)(et:j'.tests=j.tests):cT T H' a j':=by
 have w:Wr H a:=.inl ⟨_,_,_,e0⟩
 refine⟨dx,na,ta,e,?_,?_⟩
 ·rw[en];exact k _ _ n (w.lst n)
 ·rw[et];exact t.up' (fun p xs q=>k _ _ q (w.lst q)) fun p xs q=>k _ _ q (w.tup q)
theorem RX.Gz{X:Addr→Prop}{H H':Hp}{dx na ta:Addr}{j j':Vbbhaj.Job}(h:RX T X H A s)(m:(a,j)∈A.L)(k:Kp a H H')(e0:hid X H a=some (.ins T.gU dx (jv j na ta).fs))(n:Je (hid X H) na j.name)(t:pK (hid X H) ta j.tests)(e:H' a=some (.ins T.gU dx (jv j' na ta).fs))(en:j'.name=j.name)(et:j'.tests=j.tests)(eN:j'.num=j.num) :
  RX T X H' {A with L:=A.L.map fun p=>if p.2.num=j'.num then (p.1,j')else p} {s with jobs:=Vbbhaj.setJob s.jobs j'}:=by
 have nx:=(bM e0).1
 exact⟨h.r.setJob m k.hid (cT.put (j:=j) k.hid e0 n t (by rw[b_ nx];exact e) en et) eN,h.keep k nx⟩
theorem qQ{H H':Hp}{dx:Addr}{jv:JV}(k:Kp a H H')(e0:H a=some (.ins T.gU dx jv.fs)):Fix H H':=k.fix e0 (WD _ _ _)
def adz(T:Txt K mg):Sp:=fun vs H Q _=>∃X A s n b,vs=[.ref A.b,.int n,.bl b]∧RX T X H A s∧Inv s∧Done T X H A (Vbbhaj.step s (if b=true then .hold n else .letgo n)) Q
theorem YW{s:Vbbhaj.State}{n:Int}{b:Bool}:Vbbhaj.step s (if b=true then .hold n else .letgo n)=Vbbhaj.onWaiting s n fun j=>if j.held=b then Vbbhaj.no s 5 else Vbbhaj.yes {s with jobs:=Vbbhaj.setJob s.jobs {j with held:=b}} 0:=by
 cases b<;>rfl
theorem xq(h:Rep T H A s){a:Addr}{j:Vbbhaj.Job}(m:(a,j)∈A.L):j∈s.jobs:=by rw[← h.js];exact List.mem_map_of_mem (f:=(·.2)) m
theorem HB(T:Txt K mg):bD P w K mg base CX0 4 T.oF.f T.oF.fd ["board","number","held"] (adz T):=by
 refine T.oF.F.ok Af (fun vs H Q E ⟨_,_,_,_,_,e,_⟩=>by rw[e];rfl) fun cdv A outer s H vs Q E hr hsp=>?_
 have hu:=d9 hr
 refine⟨_,(ak (bu (i:=3) Af.nd rfl (Or.inl rfl) (aK T.bO (gZ T) (by exact hr.mono (by decide)) rfl (aj (pv 0) (aj (pv 1) aq))))
   (ak (a_ (aR ju (pv 3) (bz T.aW rfl) (aQ _)) (az (aC (bc (aj (pv 3) aq)))) aL)
   (ak (bu (i:=4) Af.nd rfl (Or.inl rfl) (cM (by exact hu) (aD (K:=K) (pv 0) rfl) (pv 1) (fun _ _=>rfl)))
   (ak (a_ (aR dm (aD (K:=K) (pv 4) rfl) (pv 2) (aQ _)) (az (aC (bc (aj (bz T.jA rfl) aq)))) aL)
   (ak (bG (pv 4) (pv 2) rfl)
   (az (aC (bc (aj aH aq))))))))),?_⟩
 obtain⟨X,A,s,n,b,rfl,hx,iv,d⟩:=hsp
 have h:=hx.rep
 rw[YW]at d
 refine aN (iG (uo (aa rfl) (aa rfl) h iv) fun H1 s1=>?_)
 have h1:=h.up s1
 dsimp only
 refine aN (Ft (aP (fM (aa rfl) aJ)) (fun q H2 s2=>?_) fun q H2 s2=>?_)
 ·exact cI (aZ (aa rfl)) fun v H3 s3 l=>d.no hx (yo (by simpa using jr q)) (s1.trans (s2.trans s3)) l
 have q:GF s n=0:=by simpa using q
 obtain⟨j,hj,hw,hf⟩:=wz q
 rw[hf]at d
 have h2:=h1.up s2
 obtain⟨a,m,e⟩:=h2.pair hj
 show nH _ _ _ _ _
 refine aN (iG (h2.get (cA (aa rfl) h2) (aa rfl) m e) fun H3 s3=>?_)
 have h3:=h2.up s3
 have ja:=h3.job _ m
 dsimp only
 refine aN (Ft (aP ((Zw (Gj (aa rfl) ja) (aa rfl)).cast rfl)) (fun q2 H4 s4=>?_) fun q2 H4 s4=>?_)
 ·have q2:j.held=b:=by simpa using q2
  refine cI (aZ aJ) fun v H5 s5 l=>d.no (n:=-5) hx ?_ (s1.trans (s2.trans (s3.trans (s4.trans s5)))) l
  rw[if_pos q2];rfl
 have q2:¬j.held=b:=by simpa using q2
 rw[if_neg q2]at d
 have hx4:=hx.up (s1.trans (s2.trans (s3.trans s4)))
 obtain⟨dx,na,ta,e4,n4,t4⟩:=hx4.r.job _ m
 show nH _ _ _ _ _
 refine aN (bT (aa rfl) (aa rfl) (bM e4).2 T.bQ T.oH (JV.few _) fun H5 k5 e5=>?_)
 rw[JV.Vy]at e5
 have h5:=hx4.Gz (j':={j with held:=b}) m k5 e4 n4 t4 e5 rfl rfl rfl
 dsimp only
 refine cI (aZ aJ) fun v H6 s6 l=>d.go (h5.up s6) rfl ?_ l
 exact(s1.trans (s2.trans (s3.trans s4))).fix.trans ((qQ k5 (bM e4).2).trans s6.fix)
theorem abN(T:Txt K mg):bD P w K mg base CX0 5 T.F_.f T.F_.fd ["board","number"] (spC T (dI .hold)):=by
 refine T.F_.F.ok ab1 (fun vs H Q E ⟨_,_,_,_,_,e,⟨_,e2,_⟩,_⟩=>by rw[e,e2];rfl) fun cdv A outer s H vs Q E hr hsp=>⟨_,(az (aC (aK T.oF (HB T) (by exact hr.mono (by decide)) rfl (aj (pv 0) (aj (pv 1) (aj lN aq)))))),?_⟩
 obtain⟨X,A,s,c,rest,rfl,⟨n,rfl,rfl⟩,h,iv,d⟩:=hsp
 exact⟨_,rfl,_,rfl,X,A,s,n,true,rfl,h,iv,d⟩
theorem aam(T:Txt K mg):bD P w K mg base CX0 5 T.A_.f T.A_.fd ["board","number"] (spC T (dI .letgo)):=by
 refine T.A_.F.ok aaP (fun vs H Q E ⟨_,_,_,_,_,e,⟨_,e2,_⟩,_⟩=>by rw[e,e2];rfl) fun cdv A outer s H vs Q E hr hsp=>⟨_,(az (aC (aK T.oF (HB T) (by exact hr.mono (by decide)) rfl (aj (pv 0) (aj (pv 1) (aj lN aq)))))),?_⟩
 obtain⟨X,A,s,c,rest,rfl,⟨n,rfl,rfl⟩,h,iv,d⟩:=hsp
 exact⟨_,rfl,_,rfl,X,A,s,n,false,rfl,h,iv,d⟩
def abr(mk:Int→Int→Int→Vbbhaj.Call):DT:=fun r _ c=>∃x y z,r=[.int x,.int y,.int z]∧c=mk x y z
theorem yE{z lo hi:Int}(h:Vbbhaj.inside z lo hi=true)(h0:0≤lo):((z.toNat:Nat):Int)=z:=by have:=bI.mp h;omega
theorem Ys(T:Txt K mg):bD P w K mg base CX0 4 T.wX.f T.wX.fd ["board","number","class_of","priority"] (spC T (abr .change)):=by
 refine T.wX.F.ok GQ (fun vs H Q E ⟨_,_,_,_,_,e,⟨_,_,_,e2,_⟩,_⟩=>by rw[e,e2];rfl) fun cdv A outer s H vs Q E hr hsp=>?_
 have hu:=d9 hr
 refine⟨_,(ak (a_ (PW.pt (HF (cD (bJ (aK T.fY (lM T) (by exact hr.mono (by decide)) rfl (aj (pv 2) aq)))) (GC (cD (bJ (aK T.iK (zV T) (by exact hr.mono (by decide)) rfl (aj (pv 3) aq))))))) (az (aC (bc (aj (bz T.bH rfl) aq)))) aL)
   (ak (bu (i:=4) GQ.nd rfl (Or.inl rfl) (aK T.bO (gZ T) (by exact hr.mono (by decide)) rfl (aj (pv 0) (aj (pv 1) aq))))
   (ak (a_ (aR ju (pv 4) (bz T.aW rfl) (aQ _)) (az (aC (bc (aj (pv 4) aq)))) aL)
   (ak (bu (i:=5) GQ.nd rfl (Or.inl rfl) (cM (by exact hu) (aD (K:=K) (pv 0) rfl) (pv 1) (fun _ _=>rfl)))
   (ak (bG (pv 5) (pv 2) rfl)
   (ak (bG (pv 5) (pv 3) rfl)
   (az (aC (bc (aj aH aq)))))))))),?_⟩
 obtain⟨X,A,s,c,rest,rfl,⟨n,c,p,rfl,rfl⟩,hx,iv,d⟩:=hsp
 have h:=hx.rep
 refine aN (Ft (Ht (cC (fB (iY (aa rfl)))) fun _=>cC (fB (iY (aa rfl)))) (fun q H1 s1=>?_) fun q H1 s1=>?_)
 ·refine cI (aZ aJ) fun v H3 s3 l=>d.no (n:=-1) hx (if_pos ?_) (s1.trans s3) l
  have q:(!Vbbhaj.isClass c||!Vbbhaj.inside p 0 15)=true:=q
  simpa using q
 have q:(!Vbbhaj.isClass c||!Vbbhaj.inside p 0 15)=false:=q
 simp only[Bool.or_eq_false_iff,Bool.not_eq_false']at q
 obtain⟨qc,qp⟩:=q
 have d:Done T X H A (Vbbhaj.onWaiting s n fun j=>Vbbhaj.yes {s with jobs:=Vbbhaj.setJob s.jobs {j with cls:=c.toNat,prio:=p.toNat}} 0) Q:=by
  have e:Vbbhaj.step s (.change n c p)=_:=if_neg (by rw[qc,qp];simp)
  rw[e]at d
  exact d
 have h1:=h.up s1
 show nH _ _ _ _ _
 refine aN (iG (uo (aa rfl) (aa rfl) h1 iv) fun H2 s2=>?_)
 have h2:=h1.up s2
 dsimp only
 refine aN (Ft (aP (fM (aa rfl) aJ)) (fun q H3 s3=>?_) fun q H3 s3=>?_)
 ·exact cI (aZ (aa rfl)) fun v H4 s4 l=>d.no hx (yo (by simpa using jr q)) (s1.trans (s2.trans (s3.trans s4))) l
 have qq:GF s n=0:=by simpa using q
 obtain⟨j,hj,hw,hf⟩:=wz qq
 rw[hf]at d
 have h3:=h2.up s3
 obtain⟨a,m,e⟩:=h3.pair hj
 show nH _ _ _ _ _
 refine aN (iG (h3.get (cA (aa rfl) h3) (aa rfl) m e) fun H4 s4=>?_)
 have hx4:=hx.up (s1.trans (s2.trans (s3.trans s4)))
 obtain⟨dx,na,ta,e4,n4,t4⟩:=hx4.r.job _ m
 dsimp only
 refine aN (bT (aa rfl) (aa rfl) (bM e4).2 T.bQ T.lA (JV.few _) fun H5 k5 e5=>?_)
 rw[JV.Vx]at e5
 dsimp only
 refine aN (bT (aa rfl) (aa rfl) e5 T.bQ T.lB (JV.few _) fun H6 k6 e6=>?_)
 rw[JV.Vz]at e6
 have e7:H6 a=some (.ins T.gU dx (jv {j with cls:=c.toNat,prio:=p.toNat} na ta).fs):=by
  rw[e6]
  unfold jv
  rw[yE (lo:=1) (hi:=36) qc (by decide),yE (lo:=0) (hi:=15) qp (by decide)]
 have h6:=hx4.Gz (j':={j with cls:=c.toNat,prio:=p.toNat}) m (k5.trans k6) e4 n4 t4 e7 rfl rfl rfl
 dsimp only
 refine cI (aZ aJ) fun v H7 s7 l=>d.go (h6.up s7) rfl ?_ l
 exact(s1.trans (s2.trans (s3.trans s4))).fix.trans ((qQ (k5.trans k6) (bM e4).2).trans s7.fix)
end
end Jq
end
section
set_option Elab.async false
set_option linter.all false
set_option maxRecDepth 100000
set_option maxHeartbeats 1000000
namespace Jq
open PySem PySem.Spec PyProof.Rows L2
theorem Ud{α:Type}{l:List α}{f g:α→Bool}(h:∀x∈l,f x=g x):l.any f=l.any g:=by
 induction l with
 |nil=>rfl
 |cons a r ih=>rw[List.any_cons,List.any_cons,h a List.mem_cons_self,ih fun x hx=>h x (List.mem_cons_of_mem _ hx)]
theorem adg{t:Vbbhaj.Test}(e:Vbbhaj.Ending)(hk:t.kind≤3):zz t.kind t.n (yR (.ended e)) (JK (.ended e))=Vbbhaj.met t e:=by
 have:t.kind=0∨t.kind=1∨t.kind=2∨t.kind=3:=by omega
 unfold zz Vbbhaj.met
 rcases this with h|h|h|h<;>cases e<;>simp[h,yR,JK]
theorem Wy{l:List Vbbhaj.Job}(hs:cV l){es:List (Nat×Vbbhaj.Ending)}{t:Vbbhaj.Test}(hk:t.kind≤3){k:Vbbhaj.Job}(hm:k∈l)(hn:k.num=t.job)(he:Vbbhaj.endingIn es t.job=endOf k) :
  yK l (tri t)=!(match Vbbhaj.endingIn es t.job with | some e=>Vbbhaj.met t e | none=>true)∧xG l (tri t)=(Vbbhaj.endingIn es t.job).isNone:=by
 have hb:t7 l (tri t).1=some k:=by
  show t7 l ((t.job:Nat):Int)=some k
  rw[← hn]
  exact Jv hs hm
 unfold yK xG
 rw[hb,he]
 show((endOf k).isSome&&!zz (t.kind:Int) (t.n:Int) (yR k.status) (JK k.status))=_∧(endOf k).isNone=_
 cases h:endOf k with
 |none=>exact⟨rfl,rfl⟩
 |some e =>
  have hst:=JP.mp h
  refine⟨?_,rfl⟩
  show((true:Bool)&&!zz (t.kind:Int) (t.n:Int) (yR k.status) (JK k.status))=!Vbbhaj.met t e
  rw[hst,adg e hk,Bool.true_and]
theorem Ua{l:List Vbbhaj.Job}(hs:cV l){es:List (Nat×Vbbhaj.Ending)}{ts:List Vbbhaj.Test}(hk:∀t∈ts,t.kind≤3)(hm:∀t∈ts,∃k∈l,k.num=t.job∧Vbbhaj.endingIn es t.job=endOf k) :
  ((ts.map tri).any (yK l)=!iH es ts)∧(ts.map tri).filter (xG l)=(opened es ts).map tri:=by
 refine⟨?_,?_⟩
 ·unfold iH
  rw[List.any_map,List.not_all_eq_any_not]
  refine Ud fun t ht=>?_
  obtain⟨k,h1,h2,h3⟩:=hm t ht
  exact(Wy hs (hk t ht) h1 h2 h3).1
 ·unfold opened
  rw[List.filter_map]
  congr 1
  refine List.filter_congr fun t ht=>?_
  obtain⟨k,h1,h2,h3⟩:=hm t ht
  exact(Wy hs (hk t ht) h1 h2 h3).2
section
variable {P:Program}{w:World}{K:PySem.W.Frag}{mg:Str→Option Value}{base:Heap}
variable {σ:St}{H:Hp}{ta tb tc td:TE}{a:Addr}{j:Vbbhaj.Job}{A:Ad}{s:Vbbhaj.State}{T:Txt K mg}
theorem Rep.setAt{H':Hp}{pre post:List (Addr×Vbbhaj.Job)}{j j':Vbbhaj.Job}(h:Rep T H A s)(eL:A.L=pre++(a,j)::post)(k:Kp a H H')(hj':cT T H' a j')(e:j'.num=j.num) :
  Rep T H' {A with L:=pre++(a,j')::post} {s with jobs:=pre.map (·.2)++j'::post.map (·.2)}:=by
 have m:(a,j)∈A.L:=by rw[eL];simp
 have r:=h.setJob m k hj' e
 have srt:=h.Mw
 rw[eL,List.map_append,List.map_cons]at srt
 have hp:∀p∈pre,p.2.num≠j'.num:=fun p hp q=>by
  have h3:p.2.num<j.num:=(List.pairwise_append.mp srt).2.2 p.2 (List.mem_map_of_mem (f:=(·.2)) hp) j List.mem_cons_self
  omega
 have hq:∀p∈post,p.2.num≠j'.num:=fun p hp q=>by
  have h3:j.num<p.2.num:=(List.pairwise_cons.mp (List.pairwise_append.mp srt).2.1).1 p.2 (List.mem_map_of_mem (f:=(·.2)) hp)
  omega
 have e1:(A.L.map fun p=>if p.2.num=j'.num then (p.1,j')else p)=pre++(a,j')::post:=by
  rw[eL,List.map_append,List.map_cons,if_pos e.symm]
  congr 1
  ·have:pre.map (fun p=>if p.2.num=j'.num then (p.1,j')else p)=pre.map id:=List.map_congr_left fun p hp'=>if_neg (hp p hp')
   rw[this,List.map_id]
  ·congr 1
   have:post.map (fun p=>if p.2.num=j'.num then (p.1,j')else p)=post.map id:=List.map_congr_left fun p hp'=>if_neg (hq p hp')
   rw[this,List.map_id]
 have e2:Vbbhaj.setJob s.jobs j'=pre.map (·.2)++j'::post.map (·.2):=by
  rw[← h.js,eL,List.map_append,List.map_cons]
  exact YH srt e.symm
 rw[e1,e2]at r
 exact r
theorem RX.setAt{X:Addr→Prop}{H':Hp}{pre post:List (Addr×Vbbhaj.Job)}{j j':Vbbhaj.Job}(h:RX T X H A s)(eL:A.L=pre++(a,j)::post)(k:Kp a H H')(nx:¬X a)(hj':cT T (hid X H') a j')(e:j'.num=j.num) :
  RX T X H' {A with L:=pre++(a,j')::post} {s with jobs:=pre.map (·.2)++j'::post.map (·.2)}:=⟨h.r.setAt eL k.hid hj' e,h.keep k nx⟩
theorem cT.mark{H':Hp}{dx na tt l:Addr}{j:Vbbhaj.Job}(e0:H a=some (.ins T.gU dx (jv j na tt).fs))(n:Je H na j.name)(k:Kp a H H')(hl:H' l=some (.lst [])){st c:Int}{e:Vbbhaj.Ending}(es:yR (.ended e)=st)(ec:JK (.ended e)=c)
  (e1:H' a=some (.ins T.gU dx {jv j na tt with state:=st,code:=c,tests:=l,held:=false,sU:=0,zu:=0}.fs)):cT T H' a (Vbbhaj.atEnd j e):=by
 have w:Wr H a:=.inl ⟨_,_,_,e0⟩
 refine⟨dx,na,l,?_,k _ _ n (w.lst n),[],rfl,l,rfl,hl,by simp⟩
 rw[e1]
 unfold jv Vbbhaj.atEnd
 rw[← es,← ec]
 rfl
def NJ(o:HO):Prop:=∀C dx (jv:JV),o≠.ins C dx jv.fs
def FxJ(H H':Hp):Prop:=∀b o,H b=some o→NJ o→H' b=some o
theorem FxJ.trans{H H1 H2:Hp}(x:FxJ H H1)(y:FxJ H1 H2):FxJ H H2:=fun b o h n=>y b o (x b o h n) n
theorem _root_.L2.aY.fxj{H H':Hp}(s:aY H H'):FxJ H H':=fun b o h _=>s b o h
theorem Kp.fxj{H H':Hp}{C dx:Addr}{jv:JV}(k:Kp a H H')(e:H a=some (.ins C dx jv.fs)):FxJ H H':=fun b o h n=>k b o h fun z=>by
 subst z
 rw[e]at h
 exact n _ _ _ (Option.some.inj h).symm
theorem FxJ.fix{H H':Hp}(f:FxJ H H'):Fix H H':=fun b o h g=>f b o h fun C dx jv z=>by
 subst z
 rw[WD]at g
 cases g
theorem Qv(xs:List V):NJ (.lst xs):=fun _ _ _ z=>by cases z
def aea(T:Txt K mg):Sp:=fun vs H Q _=>∃X A s a j st c,∃e:Vbbhaj.Ending,vs=[.ref A.dj,.ref a,.int st,.int c]∧RX T X H A s∧Good s∧(a,j)∈A.L∧live j∧yR (.ended e)=st∧JK (.ended e)=c ∧
 ∀H' L l,FxJ H H'→RX T X H' {A with L:=L} (Vbbhaj.ended s j e).1→H' l=some (.lst (pI (Vbbhaj.ended s j e).2))→Q (.ref l) H'
theorem Y7{es:List (Nat×Vbbhaj.Ending)}{y:Vbbhaj.Job}(h:y.status≠.waiting):turn es y=y∧jQ es y=es∧qH es y=[]:=by
 unfold turn jQ qH
 exact⟨if_neg h,if_neg h,if_neg h⟩
theorem aa9{es:List (Nat×Vbbhaj.Ending)}{y:Vbbhaj.Job}(h:y.status=.waiting)(q:iH es y.tests=true):turn es y={y with tests:=opened es y.tests}∧jQ es y=es∧qH es y=[]:=by
 unfold turn jQ qH
 rw[if_pos h,if_pos h,if_pos h]
 exact⟨if_pos q,if_pos q,if_pos q⟩
theorem Wh{es:List (Nat×Vbbhaj.Ending)}{y:Vbbhaj.Job}(h:y.status=.waiting)(q:iH es y.tests=false):turn es y=Vbbhaj.atEnd y .flushed∧jQ es y=(y.num,.flushed)::es∧qH es y=[y.num]:=by
 unfold turn jQ qH
 rw[if_pos h,if_pos h,if_pos h]
 have q:¬iH es y.tests=true:=by rw[q];simp
 exact⟨if_neg q,if_neg q,if_neg q⟩
structure WalkAt(T:Txt K mg)(X:Addr→Prop)(A:Ad)(s:Vbbhaj.State)(L0:List (Addr×Vbbhaj.Job))(es0:List (Nat×Vbbhaj.Ending))(H0:Hp)(lf:Addr)(i:Nat)(H:Hp):Prop where
 ex:∃pre es fl,pre.length=i∧RX T X H {A with L:=pre++L0.drop i} {s with jobs:=(pre++L0.drop i).map (·.2)}∧ug (pre.map (·.2)) es ((L0.drop i).map (·.2)) ∧
  pre.map (·.2)++Vbbhaj.tell es ((L0.drop i).map (·.2))=Vbbhaj.tell es0 (L0.map (·.2))∧fl++flush es ((L0.drop i).map (·.2))=flush es0 (L0.map (·.2))∧H lf=some (.lst (pI fl))∧fl.length≤i
 fx:∀b o,H0 b=some o→NJ o→b≠lf→H b=some o
theorem Km(T:Txt K mg):bD P w K mg base CX0 3 T.qL.f T.qL.fd ["jobs","job","state","code"] (aea T):=by
 refine T.qL.F.ok yq (fun vs H Q E ⟨_,_,_,_,_,_,_,_,e,_⟩=>by rw[e];rfl) fun cdv A outer s H vs Q E hr hsp=>?_
 have hu:=d9 hr
 refine⟨_,(ak (iT (aK T.jB (Cg T) (by exact hr.mono (by decide)) rfl (aj (pv 1) (aj (pv 2) (aj (pv 3) aq)))))
   (ak (bu (i:=4) yq.nd rfl (Or.inl rfl) (bc aq))
   (ak (tU PassesOwn.never rfl (cY (bR (xZ rfl) rfl T.vD wR (aj (pv 0) aq))) (bL (i:=5) yq.nd rfl (Or.inl rfl)) (ak (bu (i:=6) yq.nd rfl (Or.inl rfl) (cM (by exact hu) (pv 0) (pv 5) (fun _ _=>rfl)))
   (ak (a_ (aR ju (aD (K:=K) (pv 6) rfl) (bz T.l_ rfl) (aQ _)) (az SX) aL)
   (az (a_ (bJ (aK T.dW (u6 T) (by exact hr.mono (by decide)) rfl (aj (pv 0) (aj (aD (K:=K) (pv 6) rfl) aq)))) (ak (iT (aK T.jB (Cg T) (by exact hr.mono (by decide)) rfl (aj (pv 6) (aj (bz T.FQ rfl) (aj aH aq)))))
   (az (iT (N6 PySem.F.plainAttrs_list PySem.F.slot_list_append PySem.F.type_list_append NQ (pv 4) (aj (pv 5) aq))))) (az (bG (pv 6) (aK T.dF (ud T) (by exact hr.mono (by decide)) rfl (aj (pv 0) (aj (aD (K:=K) (pv 6) rfl) aq))) rfl)))))))
   (az (aC (pv 4)))))),?_⟩
 obtain⟨X,A,s,a,j,st,c,e,rfl,hx,g,m,hlv,hst,hcd,kk⟩:=hsp
 have h:=hx.rep
 refine aN (pA (aB (aa rfl) (aB (aa rfl) (aB (aa rfl) aV))) fun Ha sa=>?_)
 have ha:=hx.up sa
 obtain⟨dx,na,tt,e0,n0,t0⟩:=id (ha.r.job _ m)
 have nxa:=(bM e0).1
 have e0':=(bM e0).2
 refine⟨a,dx,_,st,c,rfl,e0',fun H1 lt k1 hlt0 hlt e1=>?_⟩
 have j1:cT T (hid X H1) a (Vbbhaj.atEnd j e):=cT.mark e0 n0 k1.hid (by rw[b_ (ha.fresh hlt0)];exact hlt) hst hcd (by rw[b_ nxa];exact e1)
 have r1:RX T X H1 _ _:=⟨ha.r.setJob m k1.hid j1 rfl,ha.keep k1 nxa⟩
 have tI:=Cp g (xq h m) hlv e
 have fx1:FxJ H H1:=sa.fxj.trans (k1.fxj e0')
 generalize hL0:(A.L.map fun p=>if p.2.num=(Vbbhaj.atEnd j e).num then (p.1,Vbbhaj.atEnd j e)else p)=L0 at r1
 have js1:L0.map (·.2)=Vbbhaj.setJob s.jobs (Vbbhaj.atEnd j e):=r1.r.js
 have ok0:∀p∈L0,sG p.2:=fun p hp=>by
  have:p.2∈Vbbhaj.setJob s.jobs (Vbbhaj.atEnd j e):=by rw[← js1];exact List.mem_map_of_mem (f:=(·.2)) hp
  rcases eE this with ⟨e2,_⟩|⟨e2,_⟩
  ·rw[e2];exact Jj (g.ok _ (xq h m)) e
  ·exact g.ok _ e2
 dsimp only
 refine aN (vC (ye aV (Nat.zero_le _)) ?_)
 rintro v H2 s2 ⟨lf,rfl,hlf0,hlf⟩
 dsimp only
 have r2x:=r1.more hlf0 s2 (by rw[hlf];simp)
 have r2:=r2x.rep
 refine aN (T5 (K:=K) (Hv (a:=A.dj) (aa rfl) r2.jobs (Gn _) (NZ r2.Mw)) (fun _ _=>IsN.l) fun l0 H3 s3 rn hl0=>⟨fun i σ' H'=>(∃o5 o6,σ'=[some (.ref A.dj),some (.ref a),some (.int st),some (.int c),some (.ref lf),o5,o6])∧WalkAt T (fun b=>X b∨b=lf) A s L0 [(j.num,e)] H3 lf i H',?_,?_,?_,?_⟩)
 ·refine⟨⟨_,_,rfl⟩,⟨[],[(j.num,e)],[],rfl,?_,?_,rfl,rfl,s3 _ _ hlf,Nat.le_refl _⟩,fun b o eb _ _=>eb⟩
  ·rw[List.nil_append,List.drop_zero,js1]
   exact r2x.up s3
  ·rw[List.drop_zero,js1]
   exact tI
 ·rintro i σ' H' _ ⟨_,wk⟩
  obtain⟨_,e9,n9,_⟩:=rn
  cases e9
  exact wk.fx _ _ hl0 (Qv _) fun z=>by rw[z,hlf]at n9;cases n9
 ·rintro i x σ' H' hx' ⟨⟨o5,o6,rfl⟩,⟨pre,es,fl,hpl,rpx,tv,e1',e2',hf,hfl⟩,fx⟩
  rw[List.map_map,List.getElem?_map]at hx'
  obtain⟨⟨b,y⟩,hy,rfl⟩:∃p,L0[i]?=some p∧V.int (p.2.num:Int)=x:=by
   cases q:L0[i]? with
   |none=>rw[q]at hx';cases hx'
   |some p=>rw[q]at hx';exact⟨p,rfl,Option.some.inj hx'⟩
  have hil:i<L0.length:=(List.getElem?_eq_some_iff.mp hy).1
  have hdr:L0.drop i=(b,y)::L0.drop (i+1):=by
   rw[List.drop_eq_getElem_cons hil]
   congr 1
   have:=(List.getElem?_eq_some_iff.mp hy).2
   exact this
  rw[hdr]at rpx tv e1' e2'
  have rp:=rpx.rep
  have my:(b,y)∈pre++(b,y)::L0.drop (i+1):=by simp
  have oky:sG y:=ok0 _ (List.mem_of_getElem? hy)
  have srt:=rp.Mw
  have jy:=rp.job _ my
  rw[List.map_cons]at tv e1' e2'
  rw[uG]at e1'
  have e2':fl++(qH es y++flush (jQ es y) ((L0.drop (i+1)).map (·.2)))=flush [(j.num,e)] (L0.map (·.2)):=e2'
  have tv':=tv.step
  show nH _ _ _ _ _
  refine aN (iG (rp.get (aa rfl) (aa rfl) my rfl) fun H4 s4=>?_)
  dsimp only
  have rp4:=rp.up s4
  have jy4:=jy.up s4
  have fin:∀{H5:Hp} {o5 o6:Option V},RX T (fun b=>X b∨b=lf) H5 {A with L:=pre++(b,turn es y)::L0.drop (i+1)} {s with jobs:=pre.map (·.2)++turn es y::(L0.drop (i+1)).map (·.2)}→H5 lf=some (.lst (pI (fl++qH es y)))→(∀b o,H3 b=some o→NJ o→b≠lf→H5 b=some o) →
    (∃p5 p6,[some (V.ref A.dj),some (.ref a),some (.int st),some (.int c),some (.ref lf),o5,o6]=[some (V.ref A.dj),some (.ref a),some (.int st),some (.int c),some (.ref lf),p5,p6])∧WalkAt T (fun b=>X b∨b=lf) A s L0 [(j.num,e)] H3 lf (i+1) H5:=by
   intro H5 o5 o6 r5 hf5 fx5
   refine⟨⟨_,_,rfl⟩,⟨pre++[(b,turn es y)],jQ es y,fl++qH es y,by rw[List.length_append,hpl];rfl,?_,?_,?_,?_,hf5,?_⟩,fx5⟩
   ·rw[List.append_assoc,List.singleton_append,List.map_append,List.map_cons]
    exact r5
   ·rw[List.map_append]
    exact tv'
   ·rw[List.map_append,List.append_assoc]
    exact e1'
   ·rw[List.append_assoc]
    exact e2'
   ·rw[List.length_append]
    have:(qH es y).length≤1:=by
     unfold qH
     split
     ·split<;>simp
     ·simp
    omega
  refine aN (Ft (aP ((fM (jF (aa rfl) jy4) aJ).cast (w:=.bl (!Vbbhaj.isWaiting y)) (by rw[DW]))) (fun q H5 s5=>?_) fun q H5 s5=>?_)
  ·
   have q:¬y.status=.waiting:=fun z=>by
    have:=jr q
    rw[rR.mpr z]at this
    cases this
   obtain⟨t1,t2,t3⟩:=Y7 (es:=es) q
   have sx:=s4.trans s5
   refine fin ?_ ?_ fun b' o' h1 h2 h3=>sx _ _ (fx b' o' h1 h2 h3)
   ·rw[t1]
    have:=rpx.up sx
    rw[List.map_append,List.map_cons]at this
    exact this
   ·rw[t3,List.append_nil]
    exact sx _ _ hf
  have qw:y.status=.waiting:=rR.mp (nU q)
  have rp5:=rp4.up s5
  have rpx5:=rpx.up (s4.trans s5)
  obtain⟨dy,ny,ty,eyx,nnyx,ps,ep,htrx⟩:=id (rpx5.r.job _ my)
  obtain⟨nxb,ey⟩:=bM eyx
  have htr:Bu H5 ps (.ref ty):=vY _ _ _ ZS htrx
  have hk3:∀t∈y.tests,t.kind≤3:=fun t ht=>(oky.tst t ht).1
  have hts:=tv.tst y List.mem_cons_self
  have hts':∀t∈y.tests,∃k∈(pre++(b,y)::L0.drop (i+1)).map (·.2),k.num=t.job∧Vbbhaj.endingIn es t.job=endOf k:=fun t ht=>by
   rw[List.map_append,List.map_cons]
   exact hts t ht
  obtain⟨af,ao⟩:=Ua (es:=es) srt hk3 hts'
  have hin:∀p∈ps,∃q∈pre++(b,y)::L0.drop (i+1),(q.2.num:Int)=p.2.1:=fun p hp=>by
   have:p.2∈y.tests.map tri:=by rw[← ep];exact List.mem_map_of_mem (f:=(·.2)) hp
   obtain⟨t,ht,et⟩:=List.mem_map.mp this
   obtain⟨k,hk,hn,_⟩:=hts' t ht
   obtain⟨q',hq',rfl⟩:=List.mem_map.mp hk
   exact⟨q',hq',by rw[← et];show(q'.2.num:Int)=(t.job:Int);rw[hn]⟩
  have few8:ps.length≤8:=by rw[Hf ep];exact oky.few
  have gts:∀{f:Hp→List Vbbhaj.Job→List (Addr×Int×Int×Int)→V→Hp→Prop} {H':Hp},aY H5 H'→gTs T f [.ref A.dj,.ref ty] H' (f H' ((pre++(b,y)::L0.drop (i+1)).map (·.2)) ps):=fun{f H'} s' =>
   ⟨A.dj,ty,pre++(b,y)::L0.drop (i+1),ps,rfl,(rp5.up s').jobs,(rp5.up s').job,srt,vY _ _ _ s' htr,hin,few8,rfl⟩
  have efail:(ps.any fun p=>yK ((pre++(b,y)::L0.drop (i+1)).map (·.2)) p.2)=!iH es y.tests:=by
   rw[← af,← ep,yV]
  dsimp only
  refine Ft (fB (Ev.cast (nQ (G:=gTs T fun _ l ps v _=>v=.bl (ps.any fun p=>yK l p.2)) (aB (aa rfl) (aB (bZ (aa rfl) ey T.bQ T.iy (JV.IK _)) aV)) fun H' s'=>gts s') (congrArg V.bl efail))) (fun q6 H6 s6=>?_) fun q6 H6 s6=>?_
  ·
   have q6:iH es y.tests=false:=jr q6
   obtain⟨t1,t2,t3⟩:=Wh qw q6
   have rp6:=rp5.up s6
   refine aN (pA (aB (aa rfl) (aB aJ (aB aJ aV))) fun H7 s7=>?_)
   have rp7:=rpx.up (s4.trans (s5.trans (s6.trans s7)))
   obtain⟨dy,ny,ty,eyx,nny,_⟩:=id (rp7.r.job _ my)
   obtain⟨nxb,ey⟩:=bM eyx
   refine⟨b,dy,_,4,0,rfl,ey,fun H8 l8 k8 hl80 hl8 e8=>?_⟩
   have j8:cT T (hid (fun b=>X b∨b=lf) H8) b (Vbbhaj.atEnd y .flushed):=cT.mark (e:=.flushed) eyx nny k8.hid (by rw[b_ (rp7.fresh hl80)];exact hl8) rfl rfl (by rw[b_ nxb];exact e8)
   have r8:=rp7.setAt (A:={A with L:=pre++(b,y)::L0.drop (i+1)}) rfl k8 nxb j8 rfl
   have sx:aY H' H7:=s4.trans (s5.trans (s6.trans s7))
   have fx8:∀b o,H3 b=some o→NJ o→b≠lf→H8 b=some o:=fun b' o' h1 h2 h3=>k8.fxj ey _ _ (sx _ _ (fx b' o' h1 h2 h3)) h2
   have hf8:H8 lf=some (.lst (pI fl)):=k8.fxj ey _ _ (sx _ _ hf) (Qv _)
   dsimp only
   refine T3 (y:=.int y.num) (aa rfl) (aa rfl) hf8 ?_ fun H9 k9 e9=>?_
   ·rw[jk]
    have h1:=rp.Qq
    have h2:i≤500:=by
     have:(pre++(b,y)::L0.drop (i+1)).length≤500:=h1
     rw[List.length_append,hpl]at this
     omega
    exact iw (by omega)
   ·refine fin ?_ ?_ fun b' o' h1 h2 h3=>k9 _ _ (fx8 b' o' h1 h2 h3) h3
    ·rw[t1]
     exact r8.kpX (.inr rfl) k9 (by rw[e9];simp)
    ·rw[e9,t3]
     unfold pI
     rw[List.map_append]
     rfl
  ·
   have q6:iH es y.tests=true:=nU q6
   obtain⟨t1,t2,t3⟩:=aa9 qw q6
   have rp6:=rp5.up s6
   refine nZ (R:=fun v H'=>Bu H' (ps.filter fun p=>xG ((pre++(b,y)::L0.drop (i+1)).map (·.2)) p.2) v∧∃d,v=.ref d∧H6 d=none) ?_ (aa rfl) (s6 _ _ ey) T.bQ T.iy (JV.few _) ?_
   ·refine U3 (G:=gTs T fun H l ps v H'=>Bu H' (ps.filter fun p=>xG l p.2) v∧∃d,v=.ref d∧H d=none) (aB (aa rfl) (aB (bZ (aa rfl) (s6 _ _ ey) T.bQ T.iy (JV.IK _)) aV)) fun H' s'=>?_
    exact⟨_,gts (s6.trans s'),fun v H'' ⟨q1,d,q2,q3⟩=>⟨q1,d,q2,s'.free q3⟩⟩
   rintro v H7 H8 s7 ⟨⟨l8,rfl,hl8,hp8⟩,d8,ed8,hd8⟩ k8 e8
   cases ed8
   rw[JV.W5]at e8
   have rp7:=rpx.up (s4.trans (s5.trans (s6.trans s7)))
   have s57:aY (hid (fun b=>X b∨b=lf) H5) (hid (fun b=>X b∨b=lf) H7):=Eo (s6.trans s7)
   have ey7:=s7 _ _ (s6 _ _ ey)
   have wr:Wr (hid (fun b=>X b∨b=lf) H7) b:=.inl ⟨_,_,_,s57 _ _ eyx⟩
   have n8:¬(X l8∨l8=lf):=(rpx.up (s4.trans (s5.trans s6))).fresh hd8
   have j8:cT T (hid (fun b=>X b∨b=lf) H8) b {y with tests:=opened es y.tests}:=by
    obtain⟨_,e9,_,htx⟩:=htrx
    have nm7:=s57 _ _ nnyx
    have l87:hid (fun b=>X b∨b=lf) H7 l8=_:=(b_ n8).trans hl8
    refine⟨dy,ny,l8,by rw[b_ nxb,e8];rfl,k8.hid _ _ nm7 (wr.lst nm7),ps.filter fun p=>xG ((pre++(b,y)::L0.drop (i+1)).map (·.2)) p.2,?_,l8,rfl,k8.hid _ _ l87 (wr.lst l87),fun p hp=>?_⟩
    ·show _=(opened es y.tests).map tri
     rw[← ao,← ep,List.filter_map]
     rfl
    ·have tp:=s57 _ _ (htx p (List.mem_filter.mp hp).1)
     exact k8.hid _ _ tp (wr.tup tp)
   have r8:=rp7.setAt (A:={A with L:=pre++(b,y)::L0.drop (i+1)}) rfl k8 nxb j8 rfl
   have sx:aY H' H7:=s4.trans (s5.trans (s6.trans s7))
   refine fin ?_ ?_ fun b' o' h1 h2 h3=>k8.fxj ey7 _ _ (sx _ _ (fx b' o' h1 h2 h3)) h2
   ·rw[t1]
    exact r8
   ·rw[t3,List.append_nil]
    exact k8.fxj ey7 _ _ (sx _ _ hf) (Qv _)
 ·rintro σ' H' ⟨⟨o5,o6,rfl⟩,⟨pre,es,fl,hpl,rp,tv,e1',e2',hf,hfl⟩,fx⟩
  have hn:((L0.map fun p=>(p.2.num:Int)).map V.int).length=L0.length:=by rw[List.length_map,List.length_map]
  rw[hn]at rp e1' e2'
  rw[List.drop_length,List.map_nil]at e1' e2'
  rw[List.drop_length,List.append_nil]at rp
  have e1':pre.map (·.2)=Vbbhaj.tell [(j.num,e)] (L0.map (·.2)):=by
   rw[← e1']
   show _=pre.map (·.2)++[]
   rw[List.append_nil]
  have e2':fl=flush [(j.num,e)] (L0.map (·.2)):=by
   rw[← e2']
   show _=fl++[]
   rw[List.append_nil]
  dsimp only
  refine Ev.use (aa (v:=.ref lf) rfl) fun H5 s5=>?_
  refine kk H5 pre lf ?_ ?_ ?_
  ·intro b o eb nj
   refine s5 _ _ (fx b o (s3 _ _ (s2 _ _ (fx1 b o eb nj))) nj fun z=>?_)
   have:=fx1 b o eb nj
   rw[z,hlf0]at this
   cases this
  ·have e3:(Vbbhaj.ended s j e).1={s with jobs:=pre.map (·.2)}:=by rw[e1',js1];rfl
   rw[e3]
   exact(rp.up s5).less fun b hb=>.inl hb
  ·rw[RD g e,← js1,← e2']
   exact s5 _ _ hf
end
end Jq
end
section
set_option Elab.async false
set_option linter.all false
set_option maxRecDepth 100000
set_option maxHeartbeats 1000000
namespace Jq
open PySem PySem.Spec PyProof.Rows L2
section
variable {P:Program}{w:World}{K:PySem.W.Frag}{mg:Str→Option Value}{base:Heap}
variable {σ:St}{H:Hp}{ta tb tc td:TE}{a:Addr}{j:Vbbhaj.Job}{A:Ad}{s:Vbbhaj.State}{T:Txt K mg}{X:Addr→Prop}
theorem TJ(x:Vbbhaj.State×List Nat):(Vbbhaj.told x).1=x.1∧vO (Vbbhaj.told x).2=.int x.2.length::.int x.2.length::pI x.2:=⟨rfl,Jg _ _⟩
theorem Bc{s:Vbbhaj.State}(g:Good s)(j:Vbbhaj.Job)(e:Vbbhaj.Ending):(Vbbhaj.ended s j e).2.length≤500:=by
 show((s.jobs.filter _).map _).length≤500
 rw[List.length_map]
 have:=List.length_filter_le (fun x=>Vbbhaj.isWaiting x&&(x.num != j.num&&(Vbbhaj.tell [(j.num,e)] (Vbbhaj.setJob s.jobs (Vbbhaj.atEnd j e))).any fun y=>y.num==x.num&&!Vbbhaj.isWaiting y)) s.jobs
 have:=g.few
 have:=g.cap.2
 omega
theorem B_{xs:List V}(hv:EvL ta σ H xs)(hv2:EvL tb σ H xs)(hz:xs.length≤50000):EvL (tOp abZ (aa3 (bw (tCB (fun xs H Q=>∃p ys,xs=[.ref p]∧(SqL K H p ys∨SqT K H p ys)∧Q (.int ys.length) H) (bw ta eV)) eV)) (fH (ro J0) [] E0 (bw tb eV))) σ H (.int xs.length::.int xs.length::xs) :=
 mL (aZ (zy hv)) (gM hv2 (iw (by omega))) (by show 1+(xs.length+1)≤sizeLine;exact sI (by omega))
theorem Yr(T:Txt K mg):bD P w K mg base CX0 4 T.wW.f T.wW.fd ["board","number"] (spC T (dI .cancel)):=by
 refine T.wW.F.ok GP (fun vs H Q E ⟨_,_,_,_,_,e,⟨_,e2,_⟩,_⟩=>by rw[e,e2];rfl) fun cdv A outer s H vs Q E hr hsp=>?_
 have hu:=d9 hr
 refine⟨_,(ak (bu (i:=2) GP.nd rfl (Or.inl rfl) (aK T.bO (gZ T) (by exact hr.mono (by decide)) rfl (aj (pv 0) (aj (pv 1) aq))))
   (ak (a_ (aR ju (pv 2) (bz T.aW rfl) (aQ _)) (az (aC (bc (aj (pv 2) aq)))) aL)
   (ak (bu (i:=3) GP.nd rfl (Or.inl rfl) (aK T.qL (Km T) (by exact hr.mono (by decide)) rfl (aj (aD (K:=K) (pv 0) rfl) (aj (cM (by exact hu) (aD (K:=K) (pv 0) rfl) (pv 1) (fun _ _=>rfl)) (aj (bz T.zg rfl) (aj aH aq))))))
   (az (aC (jw p_ (bc (aj (bR bB rfl T.jo fX (aj (pv 3) aq)) aq)) (aK T.dJ (gk T) (by exact hr.mono (by decide)) rfl (aj (pv 3) aq)))))))),?_⟩
 obtain⟨X,A,s,c,rest,rfl,⟨n,rfl,rfl⟩,hx,iv,d⟩:=hsp
 have h:=hx.rep
 have d:Done T X H A (Vbbhaj.onWaiting s n fun j=>Vbbhaj.told (Vbbhaj.ended s j .cancelled)) Q:=d
 refine aN (iG (uo (aa rfl) (aa rfl) h iv) fun H1 s1=>?_)
 (try dsimp only)
 refine cU (aP (fM (aa rfl) aJ)) (fun q H2 s2=>?_) fun q H2 s2=>?_
 ·exact cI (aZ (aa rfl)) fun v H3 s3 l=>d.no hx (yo (by simpa using jr q)) (s1.trans (s2.trans s3)) l
 have q:GF s n=0:=by simpa using q
 obtain⟨j,hj,hw,hf⟩:=wz q
 rw[hf]at d
 have h2:=h.up (s1.trans s2)
 obtain⟨a,m,e⟩:=h2.pair hj
 show nH _ _ _ _ _
 refine aN (Hh (aB (cA (aa rfl) h2) (aB (h2.get (cA (aa rfl) h2) (aa rfl) m e) (aB aJ (aB aJ aV)))) fun H3 s3=>?_)
 have sx:=s1.trans (s2.trans s3)
 refine⟨X,A,s,a,j,5,0,.cancelled,rfl,hx.up sx,iv.g,m,tE (rR.mp hw),rfl,rfl,fun H4 L l fx r4 hl=>?_⟩
 (try dsimp only)
 have hv:EvL (cu 3) (((start ["board","number","refusal","flushed"] [V.ref A.b,.int n]).set 2 (some (.int (GF s n)))).set 3 (some (.ref l))) H4 (pI (Vbbhaj.ended s j .cancelled).2):=(aa rfl).toL hl
 have ef:=Bc iv.g j .cancelled
 refine cI (B_ hv hv (by rw[jk];omega)) fun v H5 s5 lv=>d.go (r4.up s5) rfl (sx.fix.trans (fx.fix.trans s5.fix)) ?_
 rw[(TJ _).2]
 rw[jk]at lv
 exact lv
theorem XN{L:List (Addr×Vbbhaj.Job)}{n:Nat}:BP (qU L) (Sum.inl (n:Int))=qU (L.filter fun p=>p.2.num != n):=by
 unfold BP qU
 rw[List.filter_map]
 congr 1
 refine List.filter_congr fun p _=>?_
 show decide ((Sum.inl (p.2.num:Int):Key)≠Sum.inl (n:Int))=(p.2.num != n)
 rw[Bool.eq_iff_iff]
 simp
 omega
theorem Rep.forget{H':Hp}{n:Nat}(h:Rep T H A s)(k:Kp A.dj H H')(e:H' A.dj=some (.dK (BP (qU A.L) (Sum.inl (n:Int))))) :
  Rep T H' {A with L:=A.L.filter fun p=>p.2.num != n} {s with jobs:=s.jobs.filter fun x=>x.num != n}:=by
 have w:Wr H A.dj:=.inr ⟨_,h.jobs⟩
 have nd:∀{b C dx fs},H b=some (.ins C dx fs)→b≠A.dj:=fun e=>(cP e h.jobs).symm
 refine⟨?_,?_,k _ _ h.lim h.dd.2.1.symm,k _ _ h.clo h.dd.2.2.1.symm,k _ _ h.ini h.dd.2.2.2.2.2.symm,?_,h.is,fun p hp=>?_,fun p hp=>?_,?_,h.ndi,h.dd,?_,?_,h.tabs.kp k w⟩
 ·obtain⟨dx,e1⟩:=h.brd
  exact⟨dx,k _ _ e1 (nd e1)⟩
 ·rw[XN]at e
  exact e
 ·show(A.L.filter _).map (·.2)=_
  rw[← h.js,List.filter_map]
  rfl
 ·have hj:=h.job p (List.mem_filter.mp hp).1
  obtain⟨dx,na,ta,e1,_⟩:=id hj
  exact hj.kp k w (nd e1)
 ·have hj:=h.int p hp
  obtain⟨dx,ca,e1,_⟩:=id hj
  exact hj.kp k w (nd e1)
 ·exact List.Nodup.sublist (List.Sublist.map _ List.filter_sublist) h.ndj
 ·exact List.Pairwise.sublist List.filter_sublist h.srt
 ·exact Nat.le_trans (List.length_filter_le ..) h.few
theorem Yu(T:Txt K mg):bD P w K mg base CX0 3 T.wZ.f T.wZ.fd ["board","number"] (spC T (dI .forget)):=by
 refine T.wZ.F.ok Od (fun vs H Q E ⟨_,_,_,_,_,e,⟨_,e2,_⟩,_⟩=>by rw[e,e2];rfl) fun cdv A outer s H vs Q E hr hsp=>?_
 have hu:=d9 hr
 refine⟨_,(ak (bu (i:=2) Od.nd rfl (Or.inl rfl) (aK T.cQ (iB T) (by exact hr.mono (by decide)) rfl (aj (pv 0) (aj (pv 1) aq))))
   (ak (a_ (aR ju (pv 2) (bz T.aW rfl) (aQ _)) (az (aC (bc (aj (pv 2) aq)))) aL)
   (ak (a_ (cD (bJ (aK T.jt (ym T) (by exact hr.mono (by decide)) rfl (aj (cM (by exact hu) (aD (K:=K) (pv 0) rfl) (pv 1) (fun _ _=>rfl)) aq)))) (az (aC (bc (aj (bz T.rP rfl) aq)))) aL)
   (ak (iT (aaw (aD (K:=K) (pv 0) rfl) (pv 1) ⟨rfl,rfl,rfl,rfl⟩))
   (az (aC (bc (aj aH aq)))))))),?_⟩
 obtain⟨X,A,s,c,rest,rfl,⟨n,rfl,rfl⟩,hx,iv,d⟩:=hsp
 have h:=hx.rep
 refine aN (iG (xn (aa rfl) (aa rfl) h) fun H1 s1=>?_)
 (try dsimp only)
 refine cU (aP (fM (aa rfl) aJ)) (fun q H2 s2=>?_) fun q H2 s2=>?_
 ·exact cI (aZ (aa rfl)) fun v H3 s3 l=>d.no hx (z8 (u_.mp (jr q))) (s1.trans (s2.trans s3)) l
 have q:fO s n=0:=by simpa using q
 obtain⟨j,hj,hf⟩:=rJ q
 have h2:=h.up (s1.trans s2)
 obtain⟨a,m,e⟩:=h2.pair hj
 (try dsimp only)
 refine cU (cC (fB (n6 (h2.get (cA (aa rfl) h2) (aa rfl) m e) (h2.job _ m)))) (fun q H3 s3=>?_) fun q H3 s3=>?_
 ·have q:(endOf j).isSome=false:=jr q
  refine cI (aZ aJ) fun v H4 s4 l=>d.no (n:=-6) hx ((hf _).trans ?_) (s1.trans (s2.trans (s3.trans s4))) l
  unfold endOf at q
  cases hs:j.status with
  |waiting=>rfl
  |running=>rfl
  |ended z=>rw[hs]at q;cases q
 have q:(endOf j).isSome=true:=nU q
 obtain⟨z,ez⟩:=Option.isSome_iff_exists.mp q
 have hst:=JP.mp ez
 have d:Done T X H A (Vbbhaj.yes {s with jobs:=s.jobs.filter fun x=>x.num != j.num} 0) Q:=by
  have e:Vbbhaj.step s (.forget n)=_:=hf _
  rw[e]at d
  simp only[hst]at d
  exact d
 have sx:=s1.trans (s2.trans s3)
 have hx3:=hx.up sx
 have h3:=hx3.rep
 (try dsimp only)
 refine aN (aei (v:=.ref a) (cA (aa rfl) h3) (aa rfl) h3.jobs (by rw[← e];exact zA h3.Mw m) fun H5 k5 e5=>?_)
 (try dsimp only)
 have nxd:=(bM hx3.r.jobs).1
 have hx6:RX T X H5 _ _:=⟨hx3.r.forget (n:=j.num) k5.hid (by rw[b_ nxd,e5,← e]),hx3.keep k5 nxd⟩
 refine cI (aZ aJ) fun v H7 s7 l=>d.go (hx6.up s7) rfl ?_ l
 exact sx.fix.trans ((k5.fix h3.jobs (Wz _)).trans s7.fix)
end
end Jq
end
section
set_option Elab.async false
set_option linter.all false
set_option maxRecDepth 100000
set_option maxHeartbeats 1000000
namespace Jq
open PySem PySem.Spec PyProof.Rows L2
section
variable {P:Program}{w:World}{K:PySem.W.Frag}{mg:Str→Option Value}{base:Heap}
variable {σ:St}{H:Hp}{ta tb tc td:TE}{a:Addr}{j:Vbbhaj.Job}{A:Ad}{s:Vbbhaj.State}{T:Txt K mg}{X:Addr→Prop}
theorem Rep.aaQ{H':Hp}{cs:List Vbbhaj.Class}(h:Rep T H A s){d:Addr}(hd:d=A.dl∨d=A.dc)(k:Kp d H H')(e1:H' A.dl=some (.dK (gm (fun c:Vbbhaj.Class=>V.int c.limit) 1 cs)))(e2:H' A.dc=some (.dK (gm (fun c:Vbbhaj.Class=>V.bl c.closed) 1 cs))) :
  Rep T H' A {s with classes:=cs}:=by
 have hdd:∃kvs,H d=some (.dK kvs):=by
  rcases hd with rfl|rfl
  ·exact⟨_,h.lim⟩
  ·exact⟨_,h.clo⟩
 obtain⟨kvs,hdk⟩:=hdd
 have w:Wr H d:=.inr ⟨_,hdk⟩
 have nd:∀{b C dx fs},H b=some (.ins C dx fs)→b≠d:=fun e=>(cP e hdk).symm
 have n1:A.dj≠d:=by rcases hd with rfl | rfl;exact h.dd.2.1;exact h.dd.2.2.1
 have n2:A.di≠d:=by rcases hd with rfl | rfl;exact h.dd.2.2.2.1;exact h.dd.2.2.2.2.1
 refine⟨?_,k _ _ h.jobs n1,e1,e2,k _ _ h.ini n2,h.js,h.is,fun p hp=>?_,fun p hp=>?_,h.ndj,h.ndi,h.dd,h.srt,h.few,h.tabs.kp k w⟩
 ·obtain⟨dx,e⟩:=h.brd
  exact⟨dx,k _ _ e (nd e)⟩
 ·obtain⟨dx,na,ta,e,_⟩:=id (h.job p hp)
  exact(h.job p hp).kp k w (nd e)
 ·obtain⟨dx,ca,e,_⟩:=id (h.int p hp)
  exact(h.int p hp).kp k w (nd e)
theorem Rep.V7{H':Hp}{s':Vbbhaj.State}{dx:Addr}(h:Rep T H A s)(k:Kp A.b H H')(e:H' A.b=some (.ins T.dR dx (bv A s').fs))(e1:s'.classes=s.classes)(e2:s'.inits=s.inits)(e3:s'.jobs=s.jobs):Rep T H' A s':=by
 obtain⟨dx0,e0⟩:=h.brd
 have w:Wr H A.b:=.inl ⟨_,_,_,e0⟩
 refine⟨⟨dx,e⟩,k _ _ h.jobs (cP e0 h.jobs),?_,?_,k _ _ h.ini (cP e0 h.ini),by rw[e3];exact h.js,by rw[e2];exact h.is,fun p hp=>(h.job p hp).kp k w (h.R0 (h.job p hp)),fun p hp=>(h.int p hp).kp k w (h.RZ (h.int p hp)),h.ndj,h.ndi,h.dd,by rw[e3];exact h.srt,by rw[e3];exact h.few,h.tabs.kp k w⟩
 ·rw[e1];exact k _ _ h.lim (cP e0 h.lim)
 ·rw[e1];exact k _ _ h.clo (cP e0 h.clo)
def dII(mk:Int→Int→Vbbhaj.Call):DT:=fun r _ c=>∃x y,r=[.int x,.int y]∧c=mk x y
theorem YJ{s:Vbbhaj.State}(g:Good s){c n:Int}(hc:Vbbhaj.isClass c=true)(hn:0≤n):putK (gm (fun c:Vbbhaj.Class=>V.int c.limit) 1 s.classes) (Sum.inl c) (.int n)=gm (fun c:Vbbhaj.Class=>V.int c.limit) 1 (s.classes.set (c.toNat - 1) {Vbbhaj.classAt s c.toNat with limit:=n.toNat}):=by
 have e:=qT g hc
 have hl:c.toNat - 1<s.classes.length:=(List.getElem?_eq_some_iff.mp e.1).1
 have:=TF (fun c:Vbbhaj.Class=>V.int c.limit) (n:=1) {Vbbhaj.classAt s c.toNat with limit:=n.toNat} hl
 rw[e.2]at this
 rw[← this]
 congr 2
 show n=((n.toNat:Nat):Int)
 omega
theorem Tn{s:Vbbhaj.State}(g:Good s){c:Int}{b:Bool}(hc:Vbbhaj.isClass c=true):putK (gm (fun c:Vbbhaj.Class=>V.bl c.closed) 1 s.classes) (Sum.inl c) (.bl b)=gm (fun c:Vbbhaj.Class=>V.bl c.closed) 1 (s.classes.set (c.toNat - 1) {Vbbhaj.classAt s c.toNat with closed:=b}):=by
 have e:=qT g hc
 have hl:c.toNat - 1<s.classes.length:=(List.getElem?_eq_some_iff.mp e.1).1
 have:=TF (fun c:Vbbhaj.Class=>V.bl c.closed) (n:=1) {Vbbhaj.classAt s c.toNat with closed:=b} hl
 rw[e.2]at this
 exact this
theorem Kr(T:Txt K mg):bD P w K mg base CX0 3 T.jU.f T.jU.fd ["board","class_of","n"] (spC T (dII .limit)):=by
 refine T.jU.F.ok K8 (fun vs H Q E ⟨_,_,_,_,_,e,⟨_,_,e2,_⟩,_⟩=>by rw[e,e2];rfl) fun cdv A outer s H vs Q E hr hsp=>?_
 have hu:=d9 hr
 refine⟨_,(ak (a_ (PW.pt (HF (cD (bJ (aK T.fY (lM T) (by exact hr.mono (by decide)) rfl (aj (pv 1) aq)))) (GC (cD (bJ (aK T.qO (Sx T) (by exact hr.mono (by decide)) rfl (aj (pv 2) aq))))))) (az (aC (bc (aj (bz T.bH rfl) aq)))) aL)
   (ak (Bk (by exact hu) (aD (K:=K) (pv 0) rfl) (pv 1) (pv 2) rfl)
   (az (aC (bc (aj (aK T.cz (iz T) (by exact hr.mono (by decide)) rfl (aj (aK T.dZ (oh T) (by exact hr.mono (by decide)) rfl (aj (pv 0) aq)) (aj (pv 1) aq))) aq)))))),?_⟩
 obtain⟨X,A,s,_,rest,rfl,⟨c,n,rfl,rfl⟩,hx,iv,d⟩:=hsp
 refine cU (Ht (cC (fB (iY (aa rfl)))) fun _=>cC (fB (iY (aa rfl)))) (fun q H1 s1=>?_) fun q H1 s1=>?_
 ·refine cI (aZ aJ) fun v H3 s3 l=>d.no (n:=-1) hx (if_pos ?_) (s1.trans s3) l
  have q:(!Vbbhaj.isClass c||!Vbbhaj.inside n 0 16)=true:=q
  simpa using q
 have q:(!Vbbhaj.isClass c||!Vbbhaj.inside n 0 16)=false:=q
 simp only[Bool.or_eq_false_iff,Bool.not_eq_false']at q
 obtain⟨qc,qn⟩:=q
 have e0:Vbbhaj.step s (.limit c n)=Vbbhaj.yes {s with classes:=s.classes.set (c.toNat - 1) {Vbbhaj.classAt s c.toNat with limit:=n.toNat}} (Vbbhaj.runningIn s c.toNat):=if_neg (by rw[qc,qn];simp)
 rw[e0]at d
 have hx1:=hx.up s1
 have h1:=hx1.rep
 have nxd:=(bM hx1.r.lim).1
 have nxc:=(bM hx1.r.clo).1
 refine aN (Q3 (aa rfl) (zx (aa rfl) h1) (aa rfl) h1.lim (by rw[xP,iv.g.CZ];exact iw (by decide)) fun H2 k2 e2=>?_)
 (try dsimp only)
 rw[YJ iv.g qc (by have:=bI.mp qn;omega)]at e2
 have e3:H2 A.dc=some (.dK (gm (fun c:Vbbhaj.Class=>V.bl c.closed) 1 (s.classes.set (c.toNat - 1) {Vbbhaj.classAt s c.toNat with limit:=n.toNat}))):=by
  have z:=Bq (fun c:Vbbhaj.Class=>V.bl c.closed) (y:={Vbbhaj.classAt s c.toNat with limit:=n.toNat}) 1 (qT iv.g qc).1 rfl
  rw[z]
  exact k2 _ _ h1.clo h1.dd.1.symm
 have hx2:RX T X H2 A {s with classes:=s.classes.set (c.toNat - 1) {Vbbhaj.classAt s c.toNat with limit:=n.toNat}}:=⟨hx1.r.aaQ (.inl rfl) k2.hid (by rw[b_ nxd];exact e2) (by rw[b_ nxc];exact e3),hx1.keep k2 nxd⟩
 have h2:=hx2.rep
 refine cI (aZ ((Ei (uq (aa rfl) h2) (h2.vW _) (h2.JW _) (aa rfl)).cast (w:=.int (Vbbhaj.runningIn s c.toNat)) (by rw[PL h2.js _ qc];rfl))) fun v H3 s3 l=>d.go (hx2.up s3) rfl ?_ l
 exact s1.fix.trans ((k2.fix h1.lim (Wz _)).trans s3.fix)
def aaV(T:Txt K mg):Sp:=fun vs H Q _=>∃X A s c b,vs=[.ref A.b,.int c,.bl b]∧RX T X H A s∧Inv s∧Done T X H A (Vbbhaj.step s (if b=true then .close c else .open_ c)) Q
theorem Tt{s:Vbbhaj.State}{c:Int}{b:Bool}:Vbbhaj.step s (if b=true then .close c else .open_ c)=if Vbbhaj.isClass c=false then Vbbhaj.no s 1 else if (Vbbhaj.classAt s c.toNat).closed=b then Vbbhaj.no s 5 else Vbbhaj.yes {s with classes:=s.classes.set (c.toNat - 1) {Vbbhaj.classAt s c.toNat with closed:=b}} 0:=by
 cases b<;>rfl
theorem Cj(T:Txt K mg):bD P w K mg base CX0 2 T.jD.f T.jD.fd ["board","class_of","closed"] (aaV T):=by
 refine T.jD.F.ok M7 (fun vs H Q E ⟨_,_,_,_,_,e,_⟩=>by rw[e];rfl) fun cdv A outer s H vs Q E hr hsp=>?_
 have hu:=d9 hr
 refine⟨_,(ak (a_ (cD (bJ (aK T.fY (lM T) (by exact hr.mono (by decide)) rfl (aj (pv 1) aq)))) (az (aC (bc (aj (bz T.bH rfl) aq)))) aL)
   (ak (a_ (aR dm (cM (by exact hu) (aD (K:=K) (pv 0) rfl) (pv 1) (fun _ _=>rfl)) (pv 2) (aQ _)) (az (aC (bc (aj (bz T.jA rfl) aq)))) aL)
   (ak (Bk (by exact hu) (aD (K:=K) (pv 0) rfl) (pv 1) (pv 2) rfl)
   (az (aC (bc (aj aH aq))))))),?_⟩
 obtain⟨X,A,s,c,b,rfl,hx,iv,d⟩:=hsp
 rw[Tt]at d
 refine cU (cC (fB (iY (aa rfl)))) (fun q H1 s1=>?_) fun q H1 s1=>?_
 ·exact cI (aZ aJ) fun v H3 s3 l=>d.no (n:=-1) hx (if_pos (show Vbbhaj.isClass c=false from jr q)) (s1.trans s3) l
 have qc:Vbbhaj.isClass c=true:=nU q
 rw[if_neg (nF qc)]at d
 have hx1:=hx.up s1
 have h1:=hx1.rep
 refine cU (aP (Zw (fK (vI (aa rfl) h1) (aa rfl) h1.clo (h1.closed iv.g qc)) (aa rfl))) (fun q H2 s2=>?_) fun q H2 s2=>?_
 ·have q:(Vbbhaj.classAt s c.toNat).closed=b:=by simpa using q
  exact cI (aZ aJ) fun v H3 s3 l=>d.no (n:=-5) hx (if_pos q) (s1.trans (s2.trans s3)) l
 have q:¬(Vbbhaj.classAt s c.toNat).closed=b:=by simpa using q
 rw[if_neg q]at d
 have hx2:=hx1.up s2
 have h2:=hx2.rep
 have nxd:=(bM hx2.r.lim).1
 have nxc:=(bM hx2.r.clo).1
 refine aN (Q3 (aa rfl) (vI (aa rfl) h2) (aa rfl) h2.clo (by rw[xP,iv.g.CZ];exact iw (by decide)) fun H3 k3 e3=>?_)
 (try dsimp only)
 rw[Tn iv.g qc]at e3
 have e4:H3 A.dl=some (.dK (gm (fun c:Vbbhaj.Class=>V.int c.limit) 1 (s.classes.set (c.toNat - 1) {Vbbhaj.classAt s c.toNat with closed:=b}))):=by
  have z:=Bq (fun c:Vbbhaj.Class=>V.int c.limit) (y:={Vbbhaj.classAt s c.toNat with closed:=b}) 1 (qT iv.g qc).1 rfl
  rw[z]
  exact k3 _ _ h2.lim h2.dd.1
 have hx3:RX T X H3 A {s with classes:=s.classes.set (c.toNat - 1) {Vbbhaj.classAt s c.toNat with closed:=b}}:=⟨hx2.r.aaQ (.inr rfl) k3.hid (by rw[b_ nxd];exact e4) (by rw[b_ nxc];exact e3),hx2.keep k3 nxc⟩
 refine cI (aZ aJ) fun v H4 s4 l=>d.go (hx3.up s4) rfl ?_ l
 exact(s1.trans s2).fix.trans ((k3.fix h2.clo (Wz _)).trans s4.fix)
theorem Kl(T:Txt K mg):bD P w K mg base CX0 3 T.jT.f T.jT.fd ["board","class_of"] (spC T (dI .close)):=by
 refine T.jT.F.ok K4 (fun vs H Q E ⟨_,_,_,_,_,e,⟨_,e2,_⟩,_⟩=>by rw[e,e2];rfl) fun cdv A outer s H vs Q E hr hsp=>⟨_,(az (aC (aK T.jD (Cj T) (by exact hr.mono (by decide)) rfl (aj (pv 0) (aj (pv 1) (aj lN aq)))))),?_⟩
 obtain⟨X,A,s,c,rest,rfl,⟨n,rfl,rfl⟩,h,iv,d⟩:=hsp
 exact⟨_,rfl,_,rfl,X,A,s,n,true,rfl,h,iv,d⟩
theorem MF(T:Txt K mg):bD P w K mg base CX0 3 T.mC.f T.mC.fd ["board","class_of"] (spC T (dI .open_)):=by
 refine T.mC.F.ok M6 (fun vs H Q E ⟨_,_,_,_,_,e,⟨_,e2,_⟩,_⟩=>by rw[e,e2];rfl) fun cdv A outer s H vs Q E hr hsp=>⟨_,(az (aC (aK T.jD (Cj T) (by exact hr.mono (by decide)) rfl (aj (pv 0) (aj (pv 1) (aj lN aq)))))),?_⟩
 obtain⟨X,A,s,c,rest,rfl,⟨n,rfl,rfl⟩,h,iv,d⟩:=hsp
 exact⟨_,rfl,_,rfl,X,A,s,n,false,rfl,h,iv,d⟩
def tk(n:Nat)(j:Vbbhaj.Job):Vbbhaj.Job:=if Vbbhaj.ready j=true then {j with waited:=j.waited+n}else j
theorem adG(n:Nat)(j:Vbbhaj.Job):(tk n j).num=j.num:=by unfold tk;split<;>rfl
theorem abS(T:Txt K mg):bD P w K mg base CX0 2 T.Gh.f T.Gh.fd ["board","n"] (spC T (dI .tick)):=by
 refine T.Gh.F.ok QS (fun vs H Q E ⟨_,_,_,_,_,e,⟨_,e2,_⟩,_⟩=>by rw[e,e2];rfl) fun cdv A outer s H vs Q E hr hsp=>?_
 have hu:=d9 hr
 refine⟨_,(ak (a_ (cD (bJ (aK T.qP (Sy T) (by exact hr.mono (by decide)) rfl (aj (pv 1) aq)))) (az (aC (bc (aj (bz T.bH rfl) aq)))) aL)
   (ak (a_ (aR aap (jw z9 (aD (K:=K) (pv 0) rfl) (pv 1)) (bz T.zp rfl) (aQ _)) (az (aC (bc (aj (bz T.Av rfl) aq)))) aL)
   (ak (uF (pv 0) (pv 1) Gk)
   (ak (tU PassesOwn.never rfl (cY (mV (Uy rfl) rfl T.Hi Ip (aj (aD (K:=K) (pv 0) rfl) aq))) (bL (i:=2) QS.nd rfl (Or.inl rfl)) (ak (bu (i:=3) QS.nd rfl (Or.inl rfl) (cM (by exact hu) (aD (K:=K) (pv 0) rfl) (pv 2) (fun _ _=>rfl)))
   (az (a_ (bJ (aK T.lg (zW T) (by exact hr.mono (by decide)) rfl (aj (pv 3) aq))) (az (uF (pv 3) (pv 1) Gk)) aL))))
   (az (aC (bc (aj (aD (K:=K) (pv 0) rfl) aq)))))))),?_⟩
 obtain⟨X,A,s,_,rest,rfl,⟨n,rfl,rfl⟩,hx,iv,d⟩:=hsp
 refine cU (cC (fB (iY (aa rfl)))) (fun q H1 s1=>?_) fun q H1 s1=>?_
 ·exact cI (aZ aJ) fun v H3 s3 l=>d.no (n:=-1) hx (if_pos (jr q)) (s1.trans s3) l
 have qn:Vbbhaj.inside n 1 1000000=true:=nU q
 have hn:=bI.mp qn
 have nN:((n.toNat:Nat):Int)=n:=by omega
 have d:Done T X H A (if Vbbhaj.LASTTIME<s.now+n.toNat then Vbbhaj.no s 8 else Vbbhaj.yes {s with now:=s.now+n.toNat,jobs:=s.jobs.map (tk n.toNat)} (s.now+n.toNat)) Q:=by
  have e:Vbbhaj.step s (.tick n)=_:=if_neg (nF qn)
  rw[e]at d
  exact d
 have hx1:=hx.up s1
 have h1:=hx1.rep
 refine cU (aP (eY (eY (Nt (aa rfl) h1) (aa rfl)) aJ)) (fun q H2 s2=>?_) fun q H2 s2=>?_
 ·have q:(100000000:Int)<(s.now:Int)+n:=by simpa using q
  exact cI (aZ aJ) fun v H3 s3 l=>d.no (n:=-8) hx (if_pos (by show 10 ^ 8<_;omega)) (s1.trans (s2.trans s3)) l
 have q:¬(100000000:Int)<(s.now:Int)+n:=by simpa using q
 rw[if_neg (by show¬10 ^ 8<_;omega)]at d
 have hx2:=hx1.up s2
 have h2:=hx2.rep
 obtain⟨dx,eb⟩:=hx2.r.brd
 obtain⟨nxb,eb'⟩:=bM eb
 refine aN (GZ (aa rfl) (aa rfl) eb' T.bN T.pM (BV.few _) (BV.aab _) fun H3 k3 e3=>?_)
 (try dsimp only)
 rw[BV.aau]at e3
 have hx3:RX T X H3 A {s with now:=s.now+n.toNat}:=⟨hx2.r.V7 k3.hid (s':={s with now:=s.now+n.toNat}) (by
  rw[b_ nxb,e3]
  unfold bv
  rw[show((s.now+n.toNat:Nat):Int)=(s.now:Int)+n by omega]) rfl rfl rfl,hx2.keep k3 nxb⟩
 have h3:=hx3.rep
 have fix3:Fix H H3:=(s1.trans s2).fix.trans (k3.fix eb' (Iz _ _ _))
 refine aN (T5 (K:=K) (XS (cA (aa rfl) h3) h3.jobs (Gn _)) (fun _ _=>IsN.l) fun l0 H4 s4 rn hl0=>⟨fun i σ' H'=>(∃o2 o3,σ'=[some (.ref A.b),some (.int n),o2,o3])∧RX T X H' {A with L:=(A.L.take i).map (fun p=>(p.1,tk n.toNat p.2))++A.L.drop i} {s with now:=s.now+n.toNat,jobs:=((A.L.take i).map (fun p=>(p.1,tk n.toNat p.2))++A.L.drop i).map (·.2)}∧FxJ H4 H',?_,?_,?_,?_⟩)
 ·refine⟨⟨_,_,rfl⟩,?_,fun b o e _=>e⟩
  rw[List.take_zero,List.map_nil,List.nil_append,List.drop_zero,h3.js]
  exact hx3.up s4
 ·rintro i σ' H' _ ⟨_,_,fx⟩
  exact fx _ _ hl0 (Qv _)
 ·rintro i x σ' H' hx' ⟨⟨o2,o3,rfl⟩,rx,fx⟩
  rw[List.map_map,List.getElem?_map]at hx'
  obtain⟨⟨b,y⟩,hy,rfl⟩:∃p,A.L[i]?=some p∧V.int (p.2.num:Int)=x:=by
   cases q:A.L[i]? with
   |none=>rw[q]at hx';cases hx'
   |some p=>rw[q]at hx';exact⟨p,rfl,Option.some.inj hx'⟩
  have hil:i<A.L.length:=(List.getElem?_eq_some_iff.mp hy).1
  have hdr:A.L.drop i=(b,y)::A.L.drop (i+1):=by
   rw[List.drop_eq_getElem_cons hil]
   congr 1
   exact(List.getElem?_eq_some_iff.mp hy).2
  have htk:A.L.take (i+1)=A.L.take i++[(b,y)]:=rO hy
  rw[hdr]at rx
  generalize hpre:(A.L.take i).map (fun p=>(p.1,tk n.toNat p.2))=pre at rx
  have rp:=rx.rep
  have my:(b,y)∈pre++(b,y)::A.L.drop (i+1):=by simp
  have fin:∀{H5:Hp} {o2 o3:Option V},RX T X H5 {A with L:=pre++(b,tk n.toNat y)::A.L.drop (i+1)} {s with now:=s.now+n.toNat,jobs:=pre.map (·.2)++tk n.toNat y::(A.L.drop (i+1)).map (·.2)}→FxJ H4 H5 →
    (∃p2 p3,[some (V.ref A.b),some (.int n),o2,o3]=[some (V.ref A.b),some (.int n),p2,p3])∧RX T X H5 {A with L:=(A.L.take (i+1)).map (fun p=>(p.1,tk n.toNat p.2))++A.L.drop (i+1)} {s with now:=s.now+n.toNat,jobs:=((A.L.take (i+1)).map (fun p=>(p.1,tk n.toNat p.2))++A.L.drop (i+1)).map (·.2)}∧FxJ H4 H5:=by
   intro H5 o2 o3 r5 f5
   refine⟨⟨_,_,rfl⟩,?_,f5⟩
   have e:(A.L.take (i+1)).map (fun p=>(p.1,tk n.toNat p.2))++A.L.drop (i+1)=pre++(b,tk n.toNat y)::A.L.drop (i+1):=by
    rw[htk,List.map_append,hpre,List.append_assoc]
    rfl
   rw[e,List.map_append,List.map_cons]
   exact r5
  show nH _ _ _ _ _
  refine aN (iG (rp.get (cA (aa rfl) rp) (aa rfl) my rfl) fun H5 s5=>?_)
  (try dsimp only)
  have rx5:=rx.up s5
  refine Ft (fB (n6 (aa rfl) (rx5.rep.job _ my))) (fun q H6 s6=>?_) fun q H6 s6=>?_
  ·have rx6:=rx5.up s6
   obtain⟨dy,ny,ty,ey,nn,tt⟩:=id (rx6.r.job _ my)
   obtain⟨nxy,ey'⟩:=bM ey
   refine GZ (aa rfl) (aa rfl) ey' T.bQ T.pP (JV.few _) (JV.R3 _) fun H7 k7 e7=>?_
   rw[JV.aav]at e7
   have et:tk n.toNat y={y with waited:=y.waited+n.toNat}:=if_pos q
   have j7:cT T (hid X H7) b (tk n.toNat y):=by
    rw[et]
    refine cT.put (j:=y) k7.hid ey nn tt ?_ rfl rfl
    rw[b_ nxy,e7]
    unfold jv
    rw[show((y.waited+n.toNat:Nat):Int)=(y.waited:Int)+n by omega]
   exact fin (rx6.setAt (A:={A with L:=pre++(b,y)::A.L.drop (i+1)}) rfl k7 nxy j7 (adG _ _)) (fx.trans ((s5.trans s6).fxj.trans (k7.fxj ey')))
  ·have et:tk n.toNat y=y:=if_neg (by rw[q];exact Bool.false_ne_true)
   refine fin ?_ (fx.trans (s5.trans s6).fxj)
   rw[et]
   have:=rx5.up s6
   rw[List.map_append,List.map_cons]at this
   exact this
 ·rintro σ' H' ⟨⟨o2,o3,rfl⟩,rx,fx⟩
  have hl:((A.L.map fun p=>(p.2.num:Int)).map V.int).length=A.L.length:=by rw[List.length_map,List.length_map]
  rw[hl,List.take_length,List.drop_length,List.append_nil]at rx
  have ej:(A.L.map fun p=>(p.1,tk n.toNat p.2)).map (·.2)=s.jobs.map (tk n.toNat):=by
   rw[← h3.js,List.map_map,List.map_map]
   rfl
  rw[ej]at rx
  (try dsimp only)
  refine cI (aZ ((Nt (aa rfl) rx.rep).cast rfl)) fun v H8 s8 l=>d.go (rx.up s8) rfl ?_ l
  exact fix3.trans (s4.fix.trans (fx.fix.trans s8.fix))
end
end Jq
end
section
set_option Elab.async false
set_option linter.all false
set_option maxRecDepth 100000
set_option maxHeartbeats 1000000
namespace Jq
open PySem PySem.Spec PyProof.Rows L2
section
variable {P:Program}{w:World}{K:PySem.W.Frag}{mg:Str→Option Value}{base:Heap}
variable {σ:St}{H:Hp}{ta tb tc td:TE}{a:Addr}{j:Vbbhaj.Job}{A:Ad}{s:Vbbhaj.State}{T:Txt K mg}{X:Addr→Prop}
theorem JT{xs:List V}(ha:EvL ta σ H xs):EvP (tCB (fun xs H Q=>∃p ys,xs=[.ref p]∧(SqL K H p ys∨SqT K H p ys)∧∀l,H l=none→Q (.ref l) (upd H l (.lst ys))) (bw ta eV)) σ H (IsN H xs):=fun H1 s Q k =>
 ha H1 s _ fun x' H2 s2 ⟨l,e,q⟩=>⟨l,xs,by rw[e],.inl (SqL.of q),fun p hp=>k _ _ (s2.trans (jl hp)) ⟨p,rfl,(s.trans s2).free hp,aX⟩⟩
theorem RX.Dm{H H':Hp}{dx ca:Addr}{i:Nat}{x x':Vbbhaj.Init}{iv:IV}(h:RX T X H A s)(hi:A.I[i]?=some (a,x))(k:Kp a H H')(e0:hid X H a=some (.ins T.bV dx iv.fs))(e:H' a=some (.ins T.bV dx (IV.mk x'.on ca x'.draining x'.job).fs))(c:H' ca=some (.lst (x'.classes.map fun c:Nat=>V.int c)))(nc:¬X ca) :
  RX T X H' {A with I:=A.I.set i (a,x')} {s with inits:=s.inits.set i x'}:=by
 have nx:=(bM e0).1
 exact⟨h.r.setInt hi k.hid ⟨dx,ca,by rw[b_ nx];exact e,by rw[b_ nc];exact c⟩,h.keep k nx⟩
theorem oG{H H':Hp}{dx:Addr}{iv:IV}(k:Kp a H H')(e0:H a=some (.ins T.bV dx iv.fs)):Fix H H':=k.fix e0 (abx _ _ _)
def aeb(T:Txt K mg):Sp:=fun vs H Q _=>∃a dx,∃iv:IV,vs=[.ref a]∧H a=some (.ins T.bV dx iv.fs) ∧
 ∀H' l,Kp a H H'→H l=none→H' l=some (.lst [])→H' a=some (.ins T.bV dx {iv with on:=false,classes:=l,draining:=false}.fs)→Q .non H'
theorem Ck(T:Txt K mg):bD P w K mg base CX0 1 T.jE.f T.jE.fd ["initiator"] (aeb T):=by
 refine T.jE.F.ok M8 (fun vs H Q E ⟨_,_,_,e,_⟩=>by rw[e];rfl) fun cdv A outer s H vs Q E hr hsp=>⟨_,(ak (bG (pv 0) lN rfl)
   (ak (bG (pv 0) (bc aq) rfl)
   (az (bG (pv 0) lN rfl)))),?_⟩
 obtain⟨a,dx,iv,rfl,e,k⟩:=hsp
 refine aN (bT aJ (aa rfl) e T.bC T.i_ (IV.few _) fun H1 k1 e1=>?_)
 (try dsimp only)
 rw[IV.ad3]at e1
 refine aN (nZ (ye aV (Nat.zero_le _)) (aa rfl) e1 T.bC T.du (IV.few _) ?_)
 rintro y H3 H4 s3 ⟨l,rfl,hl0,hl⟩ k4 e4
 (try dsimp only)
 rw[IV.Gx]at e4
 have hl4:H4 l=some (.lst []):=k4 _ _ hl (cB hl (s3 _ _ e1) (by intro z;cases z))
 refine bT aJ (aa rfl) e4 T.bC T.cH (IV.few _) fun H5 k5 e5=>?_
 rw[IV.Dj]at e5
 exact k H5 l (k1.trans ((s3.kp a).trans (k4.trans k5))) (k1.free e hl0 e1) (k5 _ _ hl4 (cB hl4 e4 (by intro z;cases z))) e5
def ady(T:Txt K mg):Sp:=fun vs H Q _=>∃X A s i a x,vs=[.ref a]∧RX T X H A s∧A.I[i]?=some (a,x) ∧
 ∀H',Fix H H'→RX T X H' {A with I:=A.I.set i (a,Vbbhaj.without x)} {s with inits:=s.inits.set i (Vbbhaj.without x)}→Q .non H'
theorem xF(T:Txt K mg):bD P w K mg base CX0 2 T.gf.f T.gf.fd ["initiator"] (ady T):=by
 refine T.gf.F.ok GX (fun vs H Q E ⟨_,_,_,_,_,_,e,_⟩=>by rw[e];rfl) fun cdv A outer s H vs Q E hr hsp=>⟨_,(ak (bG (pv 0) aH rfl)
   (az (a_ (bJ (aD (K:=K) (pv 0) rfl)) (az (iT (aK T.jE (Ck T) (by exact hr.mono (by decide)) rfl (aj (pv 0) aq)))) aL))),?_⟩
 obtain⟨X,A,s,i,a,x,rfl,hx,hi,k⟩:=hsp
 obtain⟨dx,ca,e0,c0⟩:=hx.r.int _ (List.mem_of_getElem? hi)
 obtain⟨nx,e0'⟩:=bM e0
 obtain⟨nc,c0'⟩:=bM c0
 refine aN (bT aJ (aa rfl) e0' T.bC T.fC (IV.few _) fun H1 k1 e1=>?_)
 (try dsimp only)
 rw[IV.VB]at e1
 have c1:H1 ca=some (.lst (x.classes.map fun c:Nat=>V.int c)):=k1 _ _ c0' (cB c0' e0' (by intro z;cases z))
 refine Ft (b:=x.draining) (fB (bZ (aa rfl) e1 T.bC T.cH (IV.J9 _))) (fun q H2 s2=>?_) fun q H2 s2=>?_
 ·refine pA (aB (aa rfl) aV) fun H3 s3=>?_
  have e3:=s3 _ _ (s2 _ _ e1)
  refine⟨a,dx,_,rfl,e3,fun H4 l k4 l0 hl e4=>?_⟩
  have kk:Kp a H H4:=k1.trans (((s2.trans s3).kp a).trans k4)
  have ew:Vbbhaj.without x={}:=if_pos q
  refine k H4 (oG kk e0') ?_
  rw[ew]
  exact hx.Dm hi kk e0 (ca:=l) e4 hl (hx.fresh ((k1.free e0' ((s2.trans s3).free l0) e1)))
 ·have kk:Kp a H H2:=k1.trans (s2.kp a)
  have ew:Vbbhaj.without x={x with job:=0}:=if_neg (by rw[q];exact Bool.false_ne_true)
  refine k H2 (oG kk e0') ?_
  rw[ew]
  exact hx.Dm hi kk e0 (ca:=ca) (s2 _ _ e1) (s2 _ _ c1) nc
def dIL(mk:Int→List Int→Vbbhaj.Call):DT:=fun r H c=>∃n l xs,r=[.int n,.ref l]∧H l=some (.lst (xs.map V.int))∧xs.length≤400∧c=mk n xs
theorem Hr{xs:List Int}(h:Vbbhaj.areClasses xs=true):((xs.map Int.toNat).map fun c:Nat=>V.int c)=xs.map V.int:=by
 have h2:∀x∈xs,0≤x:=fun x hx=>by
  unfold Vbbhaj.areClasses at h
  simp only[Bool.and_eq_true]at h
  have:=List.all_eq_true.mp h.2.1 x hx
  have:=bI.mp this
  omega
 conv=>rhs;rw[← toNat_ofNat xs h2]
 rw[List.map_map,List.map_map,List.map_map]
 rfl
theorem HH{n:Int}{xs:List Int}(h:qi n xs=0):Vbbhaj.isInit n=true∧Vbbhaj.areClasses xs=true:=by
 unfold qi at h
 cases h1:Vbbhaj.isInit n with
 |false=>rw[if_pos h1]at h;exact absurd h (by decide)
 |true =>
  rw[if_neg (nF h1)]at h
  cases h2:Vbbhaj.areClasses xs with
  |false=>rw[if_pos h2]at h;exact absurd h (by decide)
  |true=>exact⟨rfl,rfl⟩
theorem KN{s:Vbbhaj.State}{n:Int}{xs:List Int}{y:Vbbhaj.State×Vbbhaj.Ans}(h:qi n xs≠0):(if Vbbhaj.isInit n=false then Vbbhaj.no s 1 else if Vbbhaj.areClasses xs=false then Vbbhaj.no s 2 else y)=(s,{num:=qi n xs}):=by
 unfold qi at h ⊢
 by_cases h1:Vbbhaj.isInit n=false
 ·rw[if_pos h1,if_pos h1];rfl
 ·rw[if_neg h1]at h ⊢
  rw[if_neg h1]
  by_cases h2:Vbbhaj.areClasses xs=false
  ·rw[if_pos h2,if_pos h2];rfl
  ·rw[if_neg h2]at h;exact absurd rfl h
theorem aao(T:Txt K mg):bD P w K mg base CX0 4 T.Bb.f T.Bb.fd ["board","number","classes"] (spC T (dIL .start)):=by
 refine T.Bb.F.ok K_ (fun vs H Q E ⟨_,_,_,_,_,e,⟨_,_,_,e2,_⟩,_⟩=>by rw[e,e2];rfl) fun cdv A outer s H vs Q E hr hsp=>?_
 have hu:=d9 hr
 refine⟨_,(ak (bu (i:=3) K_.nd rfl (Or.inl rfl) (aK T.dY (u9 T) (by exact hr.mono (by decide)) rfl (aj (pv 1) (aj (pv 2) aq))))
   (ak (a_ (aR ju (pv 3) (bz T.aW rfl) (aQ _)) (az (aC (bc (aj (pv 3) aq)))) aL)
   (ak (bu (i:=4) K_.nd rfl (Or.inl rfl) (cM (by exact hu) (aD (K:=K) (pv 0) rfl) (pv 1) (fun _ _=>rfl)))
   (ak (a_ (bJ (aD (K:=K) (pv 4) rfl)) (az (aC (bc (aj (bz T.jA rfl) aq)))) aL)
   (ak (bG (pv 4) lN rfl)
   (ak (bG (pv 4) (mV xY rfl T.Hi Ip (aj (pv 2) aq)) rfl)
   (ak (bG (pv 4) lN rfl)
   (ak (bG (pv 4) aH rfl)
   (az (aC (bc (aj aH aq)))))))))))),?_⟩
 obtain⟨X,A,s,c,rest,rfl,⟨n,l,xs,rfl,hl,hz,rfl⟩,hx,iv,d⟩:=hsp
 refine aN (iG (Ev.cast (nQ (G:=J1) (aB (aa rfl) (aB (aa rfl) aV)) fun H3 s3=>⟨n,l,xs,rfl,s3 _ _ hl,hz,rfl⟩) rfl) fun H1 s1=>?_)
 (try dsimp only)
 refine cU (aP (fM (aa rfl) aJ)) (fun q H2 s2=>?_) fun q H2 s2=>?_
 ·exact cI (aZ (aa rfl)) fun v H3 s3 lv=>d.no hx (KN (by simpa using jr q)) (s1.trans (s2.trans s3)) lv
 have q:qi n xs=0:=by simpa using q
 obtain⟨q1,q2⟩:=HH q
 have hx2:=hx.up (s1.trans s2)
 have h2:=hx2.rep
 have d:Done T X H A (if (Vbbhaj.initAt s n).on=true then Vbbhaj.no s 5 else Vbbhaj.yes (Vbbhaj.setInit s n {on:=true,classes:=xs.map Int.toNat}) 0) Q:=by
  have e:Vbbhaj.step s (.start n xs)=_:=(if_neg (nF q1)).trans (if_neg (nF q2))
  rw[e]at d
  exact d
 obtain⟨a,i1,i2,i3⟩:=iZ h2 iv.g q1
 show nH _ _ _ _ _
 refine aN (iG (fK (bU (aa rfl) h2) (aa rfl) h2.ini i2) fun H3 s3=>?_)
 (try dsimp only)
 refine cU (fB (Iu (aa rfl) (i3.up s3))) (fun q H4 s4=>?_) fun q H4 s4=>?_
 ·exact cI (aZ aJ) fun v H5 s5 lv=>d.no (n:=-5) hx (if_pos q) (s1.trans (s2.trans (s3.trans (s4.trans s5)))) lv
 rw[if_neg (by rw[q];exact Bool.false_ne_true)]at d
 have sx:=s1.trans (s2.trans (s3.trans s4))
 have hx4:=hx.up sx
 obtain⟨dx,ca,e0,c0⟩:=hx4.r.int _ (List.mem_of_getElem? i1)
 obtain⟨nx,e0'⟩:=bM e0
 (try dsimp only)
 refine aN (bT aJ (aa rfl) e0' T.bC T.i_ (IV.few _) fun H5 k5 e5=>?_)
 (try dsimp only)
 rw[IV.ad3]at e5
 have hl5:H5 l=some (.lst (xs.map V.int)):=k5 _ _ (sx _ _ hl) (cB (sx _ _ hl) e0' (by intro z;cases z))
 refine aN (nZ (JT ((aa rfl).toL hl5)) (aa rfl) e5 T.bC T.du (IV.few _) ?_)
 rintro y H6 H7 s6 ⟨l2,rfl,n2,hl2⟩ k7 e7
 (try dsimp only)
 rw[IV.Gx]at e7
 have c7:H7 l2=some (.lst (xs.map V.int)):=k7 _ _ hl2 (cB hl2 (s6 _ _ e5) (by intro z;cases z))
 refine aN (bT aJ (aa rfl) e7 T.bC T.cH (IV.few _) fun H8 k8 e8=>?_)
 (try dsimp only)
 rw[IV.Dj]at e8
 have c8:=k8 _ _ c7 (cB c7 e7 (by intro z;cases z))
 refine aN (bT aJ (aa rfl) e8 T.bC T.fC (IV.few _) fun H9 k9 e9=>?_)
 (try dsimp only)
 rw[IV.VB]at e9
 have c9:=k9 _ _ c8 (cB c8 e8 (by intro z;cases z))
 have kk:Kp a H4 H9:=k5.trans ((s6.kp a).trans (k7.trans (k8.trans k9)))
 have nc:¬X l2:=hx4.fresh (k5.free e0' n2 e5)
 have r9:=hx4.Dm (x':={on:=true,classes:=xs.map Int.toNat}) i1 kk e0 (ca:=l2) e9 (by rw[Hr q2];exact c9) nc
 exact cI (aZ aJ) fun v H10 s10 lv=>d.go (r9.up s10) rfl (sx.fix.trans ((oG kk e0').trans s10.fix)) lv
theorem aan(T:Txt K mg):bD P w K mg base CX0 4 T.Ba.f T.Ba.fd ["board","number","classes"] (spC T (dIL .serve)):=by
 refine T.Ba.F.ok K9 (fun vs H Q E ⟨_,_,_,_,_,e,⟨_,_,_,e2,_⟩,_⟩=>by rw[e,e2];rfl) fun cdv A outer s H vs Q E hr hsp=>?_
 have hu:=d9 hr
 refine⟨_,(ak (bu (i:=3) K9.nd rfl (Or.inl rfl) (aK T.dY (u9 T) (by exact hr.mono (by decide)) rfl (aj (pv 1) (aj (pv 2) aq))))
   (ak (a_ (aR ju (pv 3) (bz T.aW rfl) (aQ _)) (az (aC (bc (aj (pv 3) aq)))) aL)
   (ak (bu (i:=4) K9.nd rfl (Or.inl rfl) (cM (by exact hu) (aD (K:=K) (pv 0) rfl) (pv 1) (fun _ _=>rfl)))
   (ak (a_ (cD (bJ (aD (K:=K) (pv 4) rfl))) (az (aC (bc (aj (bz T.kO rfl) aq)))) aL)
   (ak (bG (pv 4) (mV xY rfl T.Hi Ip (aj (pv 2) aq)) rfl)
   (az (aC (bc (aj aH aq))))))))),?_⟩
 obtain⟨X,A,s,c,rest,rfl,⟨n,l,xs,rfl,hl,hz,rfl⟩,hx,iv,d⟩:=hsp
 refine aN (iG (Ev.cast (nQ (G:=J1) (aB (aa rfl) (aB (aa rfl) aV)) fun H3 s3=>⟨n,l,xs,rfl,s3 _ _ hl,hz,rfl⟩) rfl) fun H1 s1=>?_)
 (try dsimp only)
 refine cU (aP (fM (aa rfl) aJ)) (fun q H2 s2=>?_) fun q H2 s2=>?_
 ·exact cI (aZ (aa rfl)) fun v H3 s3 lv=>d.no hx (KN (by simpa using jr q)) (s1.trans (s2.trans s3)) lv
 have q:qi n xs=0:=by simpa using q
 obtain⟨q1,q2⟩:=HH q
 have hx2:=hx.up (s1.trans s2)
 have h2:=hx2.rep
 have d:Done T X H A (if (Vbbhaj.initAt s n).on=false then Vbbhaj.no s 3 else Vbbhaj.yes (Vbbhaj.setInit s n {Vbbhaj.initAt s n with classes:=xs.map Int.toNat}) 0) Q:=by
  have e:Vbbhaj.step s (.serve n xs)=_:=(if_neg (nF q1)).trans (if_neg (nF q2))
  rw[e]at d
  exact d
 obtain⟨a,i1,i2,i3⟩:=iZ h2 iv.g q1
 show nH _ _ _ _ _
 refine aN (iG (fK (bU (aa rfl) h2) (aa rfl) h2.ini i2) fun H3 s3=>?_)
 (try dsimp only)
 refine cU (cC (fB (Iu (aa rfl) (i3.up s3)))) (fun q H4 s4=>?_) fun q H4 s4=>?_
 ·exact cI (aZ aJ) fun v H5 s5 lv=>d.no (n:=-3) hx (if_pos (jr q)) (s1.trans (s2.trans (s3.trans (s4.trans s5)))) lv
 rw[if_neg (nF (nU q))]at d
 have sx:=s1.trans (s2.trans (s3.trans s4))
 have hx4:=hx.up sx
 obtain⟨dx,ca,e0,c0⟩:=hx4.r.int _ (List.mem_of_getElem? i1)
 obtain⟨nx,e0'⟩:=bM e0
 (try dsimp only)
 refine aN (nZ (JT ((aa rfl).toL (sx _ _ hl))) (aa rfl) e0' T.bC T.du (IV.few _) ?_)
 rintro y H6 H7 s6 ⟨l2,rfl,n2,hl2⟩ k7 e7
 (try dsimp only)
 rw[IV.Gx]at e7
 have c7:H7 l2=some (.lst (xs.map V.int)):=k7 _ _ hl2 (cB hl2 (s6 _ _ e0') (by intro z;cases z))
 have kk:Kp a H4 H7:=(s6.kp a).trans k7
 have r9:=hx4.Dm (x':={Vbbhaj.initAt s n with classes:=xs.map Int.toNat}) i1 kk e0 (ca:=l2) e7 (by rw[Hr q2];exact c7) (hx4.fresh n2)
 exact cI (aZ aJ) fun v H10 s10 lv=>d.go (r9.up s10) rfl (sx.fix.trans ((oG kk e0').trans s10.fix)) lv
theorem Tc{s:Vbbhaj.State}{n:Int}{y:Vbbhaj.State×Vbbhaj.Ans}(h:uf s n≠0):(if Vbbhaj.isInit n=false then Vbbhaj.no s 1 else if (Vbbhaj.initAt s n).on=false then Vbbhaj.no s 3 else y)=(s,{num:=uf s n}):=by
 unfold uf at h ⊢
 by_cases h1:Vbbhaj.isInit n=false
 ·rw[if_pos h1,if_pos h1];rfl
 ·rw[if_neg h1]at h ⊢
  rw[if_neg h1]
  by_cases h2:(Vbbhaj.initAt s n).on=false
  ·rw[if_pos h2,if_pos h2];rfl
  ·rw[if_neg h2]at h;exact absurd rfl h
theorem GD{s:Vbbhaj.State}{n:Int}(h:uf s n=0):Vbbhaj.isInit n=true∧(Vbbhaj.initAt s n).on=true:=by
 unfold uf at h
 cases h1:Vbbhaj.isInit n with
 |false=>rw[if_pos h1]at h;exact absurd h (by decide)
 |true =>
  rw[if_neg (nF h1)]at h
  cases h2:(Vbbhaj.initAt s n).on with
  |false=>rw[if_pos h2]at h;exact absurd h (by decide)
  |true=>exact⟨rfl,rfl⟩
theorem aal(T:Txt K mg):bD P w K mg base CX0 3 T.Az.f T.Az.fd ["board","number"] (spC T (dI .drain)):=by
 refine T.Az.F.ok K5 (fun vs H Q E ⟨_,_,_,_,_,e,⟨_,e2,_⟩,_⟩=>by rw[e,e2];rfl) fun cdv A outer s H vs Q E hr hsp=>?_
 have hu:=d9 hr
 refine⟨_,(ak (bu (i:=2) K5.nd rfl (Or.inl rfl) (aK T.dq (sS T) (by exact hr.mono (by decide)) rfl (aj (pv 0) (aj (pv 1) aq))))
   (ak (a_ (aR ju (pv 2) (bz T.aW rfl) (aQ _)) (az (aC (bc (aj (pv 2) aq)))) aL)
   (ak (bu (i:=3) K5.nd rfl (Or.inl rfl) (cM (by exact hu) (aD (K:=K) (pv 0) rfl) (pv 1) (fun _ _=>rfl)))
   (ak (a_ (bJ (aD (K:=K) (pv 3) rfl)) (az (aC (bc (aj (bz T.jA rfl) aq)))) aL)
   (ak (a_ (aR dm (aD (K:=K) (pv 3) rfl) aH (aQ _)) (az (iT (aK T.jE (Ck T) (by exact hr.mono (by decide)) rfl (aj (pv 3) aq)))) (az (bG (pv 3) lN rfl)))
   (az (aC (bc (aj (aD (K:=K) (pv 3) rfl) aq))))))))),?_⟩
 obtain⟨X,A,s,c,rest,rfl,⟨n,rfl,rfl⟩,hx,iv,d⟩:=hsp
 have h:=hx.rep
 refine aN (iG (uo (aa rfl) (aa rfl) h iv) fun H1 s1=>?_)
 (try dsimp only)
 refine cU (aP (fM (aa rfl) aJ)) (fun q H2 s2=>?_) fun q H2 s2=>?_
 ·exact cI (aZ (aa rfl)) fun v H3 s3 l=>d.no hx (Tc (by simpa using jr q)) (s1.trans (s2.trans s3)) l
 have q:uf s n=0:=by simpa using q
 obtain⟨q1,q2⟩:=GD q
 have d:Done T X H A (if (Vbbhaj.initAt s n).draining=true then Vbbhaj.no s 5 else if (Vbbhaj.initAt s n).job=0 then Vbbhaj.yes (Vbbhaj.setInit s n {}) 0 else Vbbhaj.yes (Vbbhaj.setInit s n {Vbbhaj.initAt s n with draining:=true}) (Vbbhaj.initAt s n).job) Q:=by
  have e:Vbbhaj.step s (.drain n)=_:=(if_neg (nF q1)).trans (if_neg (nF q2))
  rw[e]at d
  exact d
 have hx2:=hx.up (s1.trans s2)
 have h2:=hx2.rep
 obtain⟨a,i1,i2,i3⟩:=iZ h2 iv.g q1
 show nH _ _ _ _ _
 refine aN (iG (fK (bU (aa rfl) h2) (aa rfl) h2.ini i2) fun H3 s3=>?_)
 (try dsimp only)
 refine cU (fB (BX (aa rfl) (i3.up s3))) (fun q H4 s4=>?_) fun q H4 s4=>?_
 ·exact cI (aZ aJ) fun v H5 s5 l=>d.no (n:=-5) hx (if_pos q) (s1.trans (s2.trans (s3.trans (s4.trans s5)))) l
 rw[if_neg (by rw[q];exact Bool.false_ne_true)]at d
 have sx:=s1.trans (s2.trans (s3.trans s4))
 have hx4:=hx.up sx
 have i4:=i3.up (s3.trans s4)
 show nH _ _ _ _ _
 refine aN (Ft (aP (bY (mJ (aa rfl) i4) aJ)) (fun q H5 s5=>?_) fun q H5 s5=>?_)
 ·have q:(Vbbhaj.initAt s n).job=0:=by simpa using q
  rw[if_pos q]at d
  refine pA (aB (aa rfl) aV) fun H6 s6=>?_
  have hx6:=hx4.up (s5.trans s6)
  obtain⟨dx,ca,e0,c0⟩:=hx6.r.int _ (List.mem_of_getElem? i1)
  obtain⟨nx,e0'⟩:=bM e0
  refine⟨a,dx,_,rfl,e0',fun H7 l k7 l0 hl e7=>?_⟩
  have r7:=hx6.Dm (x':={}) i1 k7 e0 (ca:=l) (by rw[e7];show some (HO.ins T.bV dx (IV.mk false l false ((Vbbhaj.initAt s n).job:Nat)).fs)=_;rw[q]) hl (hx6.fresh l0)
  (try dsimp only)
  have ig:nJ T H7 a {}:=r7.rep.int _ (by
   show(a,({}:Vbbhaj.Init))∈A.I.set _ _
   exact List.mem_of_getElem? (i:=n.toNat - 1) (by rw[List.getElem?_set_self (List.getElem?_eq_some_iff.mp i1).1]))
  refine cI (aZ (mJ (aa rfl) ig)) fun v H8 s8 lv=>d.go (r7.up s8) rfl ?_ lv
  exact(sx.trans (s5.trans s6)).fix.trans ((oG k7 e0').trans s8.fix)
 ·have q:¬(Vbbhaj.initAt s n).job=0:=by simpa using q
  rw[if_neg q]at d
  have hx5:=hx4.up s5
  obtain⟨dx,ca,e0,c0⟩:=hx5.r.int _ (List.mem_of_getElem? i1)
  obtain⟨nx,e0'⟩:=bM e0
  obtain⟨nc,c0'⟩:=bM c0
  refine bT aJ (aa rfl) e0' T.bC T.cH (IV.few _) fun H6 k6 e6=>?_
  (try dsimp only)
  rw[IV.Dj]at e6
  have r6:=hx5.Dm (x':={Vbbhaj.initAt s n with draining:=true}) i1 k6 e0 (ca:=ca) e6 (k6 _ _ c0' (cB c0' e0' (by intro z;cases z))) nc
  have ig:nJ T H6 a {Vbbhaj.initAt s n with draining:=true}:=r6.rep.int _ (by
   show(a,({Vbbhaj.initAt s n with draining:=true}:Vbbhaj.Init))∈A.I.set _ _
   exact List.mem_of_getElem? (i:=n.toNat - 1) (by rw[List.getElem?_set_self (List.getElem?_eq_some_iff.mp i1).1]))
  refine cI (aZ (mJ (aa rfl) ig)) fun v H8 s8 lv=>d.go (r6.up s8) rfl ?_ lv
  exact(sx.trans s5).fix.trans ((oG k6 e0').trans s8.fix)
end
end Jq
end
section
set_option Elab.async false
set_option linter.all false
set_option maxRecDepth 100000
set_option maxHeartbeats 1000000
namespace Jq
open PySem PySem.Spec PyProof.Rows L2
section
variable {P:Program}{w:World}{K:PySem.W.Frag}{mg:Str→Option Value}{base:Heap}
variable {σ:St}{H:Hp}{ta tb tc td:TE}{a:Addr}{j:Vbbhaj.Job}{A:Ad}{s:Vbbhaj.State}{T:Txt K mg}{X:Addr→Prop}
theorem Wo{s:Vbbhaj.State}(iv:Inv s){n:Int}{f:Vbbhaj.Job→Vbbhaj.State×Vbbhaj.Ans}(h:qg s n≠0):(if Vbbhaj.isInit n=false then Vbbhaj.no s 1 else match Vbbhaj.jobAt s (Vbbhaj.initAt s n).job with | none=>Vbbhaj.no s 3 | some j=>f j)=(s,{num:=qg s n}):=by
 unfold qg at h ⊢
 by_cases h1:Vbbhaj.isInit n=false
 ·rw[if_pos h1,if_pos h1];rfl
 ·rw[if_neg h1]at h ⊢
  rw[if_neg h1]
  by_cases h2:(Vbbhaj.initAt s n).job=0
  ·rw[if_pos h2,h2]
   have:Vbbhaj.jobAt s ((0:Nat):Int)=none:=by
    cases e:Vbbhaj.jobAt s ((0:Nat):Int)with
    |none=>rfl
    |some j =>
     obtain⟨m,en⟩:=iI e
     have:=iv.g.num j m
     omega
   rw[this]
   rfl
  ·rw[if_neg h2]at h;exact absurd rfl h
theorem Rp{s:Vbbhaj.State}(iv:Inv s){n:Int}(h:qg s n=0):Vbbhaj.isInit n=true∧∃j,Vbbhaj.jobAt s (Vbbhaj.initAt s n).job=some j∧j.status=.running:=by
 unfold qg at h
 cases h1:Vbbhaj.isInit n with
 |false=>rw[if_pos h1]at h;exact absurd h (by decide)
 |true =>
  rw[if_neg (nF h1)]at h
  by_cases h2:(Vbbhaj.initAt s n).job=0
  ·rw[if_pos h2]at h;exact absurd h (by decide)
  ·obtain⟨_,j,hj,e1,e2⟩:=iv.i.run _ (jG iv.g h1) h2
   exact⟨rfl,j,by rw[← e1];exact Jv iv.g.srt hj,e2⟩
theorem Vt(T:Txt K mg):bD P w K mg base CX0 3 T.uB.f T.uB.fd ["board","number"] (spC T (dI .requeue)):=by
 refine T.uB.F.ok yw (fun vs H Q E ⟨_,_,_,_,_,e,⟨_,e2,_⟩,_⟩=>by rw[e,e2];rfl) fun cdv A outer s H vs Q E hr hsp=>?_
 have hu:=d9 hr
 refine⟨_,(ak (bu (i:=2) yw.nd rfl (Or.inl rfl) (aK T.cW (p7 T) (by exact hr.mono (by decide)) rfl (aj (pv 0) (aj (pv 1) aq))))
   (ak (a_ (aR ju (pv 2) (bz T.aW rfl) (aQ _)) (az (aC (bc (aj (pv 2) aq)))) aL)
   (ak (bu (i:=3) yw.nd rfl (Or.inl rfl) (cM (by exact hu) (aD (K:=K) (pv 0) rfl) (pv 1) (fun _ _=>rfl)))
   (ak (bu (i:=4) yw.nd rfl (Or.inl rfl) (cM (by exact hu) (aD (K:=K) (pv 0) rfl) (aD (K:=K) (pv 3) rfl) (fun _ _=>rfl)))
   (ak (bG (pv 4) (bz T.l_ rfl) rfl)
   (ak (bG (pv 4) lN rfl)
   (ak (iT (aK T.gf (xF T) (by exact hr.mono (by decide)) rfl (aj (pv 3) aq)))
   (az (aC (bc (aj (aD (K:=K) (pv 4) rfl) aq))))))))))),?_⟩
 obtain⟨X,A,s,c,rest,rfl,⟨n,rfl,rfl⟩,hx,iv,d⟩:=hsp
 have h:=hx.rep
 refine aN (iG (uo (aa rfl) (aa rfl) h iv) fun H1 s1=>?_)
 (try dsimp only)
 refine cU (aP (fM (aa rfl) aJ)) (fun q H2 s2=>?_) fun q H2 s2=>?_
 ·exact cI (aZ (aa rfl)) fun v H3 s3 l=>d.no hx (Wo iv (by simpa using jr q)) (s1.trans (s2.trans s3)) l
 have q:qg s n=0:=by simpa using q
 obtain⟨q1,j,hj,hrun⟩:=Rp iv q
 have d:Done T X H A (Vbbhaj.yes (Vbbhaj.setInit {s with jobs:=Vbbhaj.setJob s.jobs {j with status:=.waiting,held:=true}} n (Vbbhaj.without (Vbbhaj.initAt s n))) j.num) Q:=by
  have e:Vbbhaj.step s (.requeue n)=_:=if_neg (nF q1)
  rw[e]at d
  simp only[hj]at d
  exact d
 have hx2:=hx.up (s1.trans s2)
 have h2:=hx2.rep
 obtain⟨a,i1,i2,i3⟩:=iZ h2 iv.g q1
 show nH _ _ _ _ _
 refine aN (iG (fK (bU (aa rfl) h2) (aa rfl) h2.ini i2) fun H3 s3=>?_)
 (try dsimp only)
 have hx3:=hx2.up s3
 have h3:=hx3.rep
 obtain⟨b,m,e⟩:=h3.pair hj
 refine aN (iG (h3.get (cA (aa rfl) h3) (mJ (aa rfl) (i3.up s3)) m e) fun H4 s4=>?_)
 (try dsimp only)
 have hx4:=hx3.up s4
 obtain⟨dx,na,ta,e4,n4,t4⟩:=hx4.r.job _ m
 refine aN (bT aJ (aa rfl) (bM e4).2 T.bQ T.lC (JV.few _) fun H5 k5 e5=>?_)
 rw[JV.QC]at e5
 (try dsimp only)
 refine aN (bT aJ (aa rfl) e5 T.bQ T.oH (JV.few _) fun H6 k6 e6=>?_)
 rw[JV.Vy]at e6
 (try dsimp only)
 have h6:=hx4.Gz (j':={j with status:=.waiting,held:=true}) m (k5.trans k6) e4 n4 t4 (by
  rw[e6]
  unfold jv
  rw[hrun]
  rfl) rfl rfl rfl
 refine aN (pA (aB (aa rfl) aV) fun H7 s7=>?_)
 refine⟨X,_,_,n.toNat - 1,a,Vbbhaj.initAt s n,rfl,h6.up s7,i1,fun H8 f8 r8=>?_⟩
 (try dsimp only)
 have mj:(b,({j with status:=.waiting,held:=true}:Vbbhaj.Job))∈(A.L.map fun p=>if p.2.num=({j with status:=.waiting,held:=true}:Vbbhaj.Job).num then (p.1,({j with status:=.waiting,held:=true}:Vbbhaj.Job))else p) :=
  List.mem_map.mpr ⟨(b,j),m,if_pos rfl⟩
 refine cI (aZ (gC (aa rfl) (r8.rep.job _ mj))) fun v H9 s9 lv=>d.go (r8.up s9) rfl ?_ lv
 exact(s1.trans (s2.trans (s3.trans s4))).fix.trans ((qQ (k5.trans k6) (bM e4).2).trans (s7.fix.trans (f8.trans s9.fix)))
theorem XX(s:Vbbhaj.State)(i ab c:Int):Vbbhaj.doFinish s i ab c=if (!Vbbhaj.inside ab 0 1||!Vbbhaj.inside c 0 4095)=true then Vbbhaj.no s 1 else if Vbbhaj.isInit i=false then Vbbhaj.no s 1 else match Vbbhaj.jobAt s (Vbbhaj.initAt s i).job with
  |none=>Vbbhaj.no s 3
  |some j=>Vbbhaj.told (Vbbhaj.setInit (Vbbhaj.ended s j (if ab=1 then .abend c.toNat else .code c.toNat)).1 i (Vbbhaj.without (Vbbhaj.initAt s i)),(Vbbhaj.ended s j (if ab=1 then .abend c.toNat else .code c.toNat)).2):=by
 unfold Vbbhaj.doFinish
 cases h1:Vbbhaj.isInit i<;>cases h2:Vbbhaj.inside ab 0 1<;>cases h3:Vbbhaj.inside c 0 4095<;>rfl
theorem Yt(T:Txt K mg):bD P w K mg base CX0 4 T.wY.f T.wY.fd ["board","number","abend","code"] (spC T (abr .finish)):=by
 refine T.wY.F.ok xK (fun vs H Q E ⟨_,_,_,_,_,e,⟨_,_,_,e2,_⟩,_⟩=>by rw[e,e2];rfl) fun cdv A outer s H vs Q E hr hsp=>?_
 have hu:=d9 hr
 refine⟨_,(ak (a_ (PW.pt (HF (cD (bJ (aK T.gJ (yN T) (by exact hr.mono (by decide)) rfl (aj (pv 2) aq)))) (GC (cD (bJ (aK T.qM (Ko T) (by exact hr.mono (by decide)) rfl (aj (pv 3) aq))))))) (az (aC (bc (aj (bz T.bH rfl) aq)))) aL)
   (ak (bu (i:=4) xK.nd rfl (Or.inl rfl) (aK T.cW (p7 T) (by exact hr.mono (by decide)) rfl (aj (pv 0) (aj (pv 1) aq))))
   (ak (a_ (aR ju (pv 4) (bz T.aW rfl) (aQ _)) (az (aC (bc (aj (pv 4) aq)))) aL)
   (ak (bu (i:=5) xK.nd rfl (Or.inl rfl) (cM (by exact hu) (aD (K:=K) (pv 0) rfl) (pv 1) (fun _ _=>rfl)))
   (ak (bu (i:=6) xK.nd rfl (Or.inl rfl) (SM (aR dm (pv 2) aH (aQ _)) (bz T.iV rfl) (bz T.ik rfl)))
   (ak (bu (i:=7) xK.nd rfl (Or.inl rfl) (aK T.qL (Km T) (by exact hr.mono (by decide)) rfl (aj (aD (K:=K) (pv 0) rfl) (aj (cM (by exact hu) (aD (K:=K) (pv 0) rfl) (aD (K:=K) (pv 5) rfl) (fun _ _=>rfl)) (aj (pv 6) (aj (pv 3) aq))))))
   (ak (iT (aK T.gf (xF T) (by exact hr.mono (by decide)) rfl (aj (pv 5) aq)))
   (az (aC (jw p_ (bc (aj (bR bB rfl T.jo fX (aj (pv 7) aq)) aq)) (aK T.dJ (gk T) (by exact hr.mono (by decide)) rfl (aj (pv 7) aq)))))))))))),?_⟩
 obtain⟨X,A,s,c,rest,rfl,⟨n,ab,c,rfl,rfl⟩,hx,iv,d⟩:=hsp
 have d:Done T X H A (Vbbhaj.doFinish s n ab c) Q:=d
 rw[XX]at d
 refine cU (Ht (cC (fB (iY (aa rfl)))) fun _=>cC (fB (iY (aa rfl)))) (fun q H1 s1=>?_) fun q H1 s1=>?_
 ·exact cI (aZ aJ) fun v H3 s3 l=>d.no (n:=-1) hx (if_pos q) (s1.trans s3) l
 rw[if_neg (by rw[q];exact Bool.false_ne_true)]at d
 have q:(!Vbbhaj.inside ab 0 1||!Vbbhaj.inside c 0 4095)=false:=q
 simp only[Bool.or_eq_false_iff,Bool.not_eq_false']at q
 obtain⟨qa,qc⟩:=q
 have hx1:=hx.up s1
 have h1:=hx1.rep
 (try dsimp only)
 refine aN (iG (uo (aa rfl) (aa rfl) h1 iv) fun H2 s2=>?_)
 (try dsimp only)
 refine cU (aP (fM (aa rfl) aJ)) (fun q H3 s3=>?_) fun q H3 s3=>?_
 ·exact cI (aZ (aa rfl)) fun v H4 s4 l=>d.no hx (Wo iv (by simpa using jr q)) (s1.trans (s2.trans (s3.trans s4))) l
 have q:qg s n=0:=by simpa using q
 obtain⟨q1,j,hj,hrun⟩:=Rp iv q
 rw[if_neg (nF q1)]at d
 simp only[hj]at d
 have hx3:=hx1.up (s2.trans s3)
 have h3:=hx3.rep
 obtain⟨a,i1,i2,i3⟩:=iZ h3 iv.g q1
 show nH _ _ _ _ _
 refine aN (iG (fK (bU (aa rfl) h3) (aa rfl) h3.ini i2) fun H4 s4=>?_)
 (try dsimp only)
 generalize he:(if ab=1 then Vbbhaj.Ending.abend c.toNat else .code c.toNat)=e at d
 have cN:((c.toNat:Nat):Int)=c:=yE (lo:=0) (hi:=4095) qc (by decide)
 have hcd:JK (.ended e)=c:=by
  rw[← he]
  split<;>exact cN
 have hst:∀b:Bool,decide (ab=1)=b→(if b=true then V.int 3 else V.int 2)=.int (yR (.ended e)):=fun b hb=>by
  cases b with
  |true=>rw[← he,if_pos (of_decide_eq_true hb)];rfl
  |false=>rw[← he,if_neg (of_decide_eq_false hb)];rfl
 refine aN (iG (v:=.int (yR (.ended e))) (U4 (b:=decide (ab=1)) (aP (bY (aa rfl) aJ)) (fun q=>aJ.cast (hst true q)) fun q=>aJ.cast (hst false q)) fun H5 s5=>?_)
 (try dsimp only)
 have hx5:=hx3.up (s4.trans s5)
 have h5:=hx5.rep
 obtain⟨b,m,en⟩:=h5.pair hj
 refine aN (Hh (aB (cA (aa rfl) h5) (aB (h5.get (cA (aa rfl) h5) (mJ (aa rfl) (i3.up (s4.trans s5))) m en) (aB (aa rfl) (aB (aa rfl) aV)))) fun H6 s6=>?_)
 have hlv:live j:=fun z q=>by rw[hrun]at q;cases q
 refine⟨X,A,s,b,j,_,c,e,rfl,hx5.up s6,iv.g,m,hlv,rfl,hcd,fun H7 L l fx r7 hl=>?_⟩
 (try dsimp only)
 refine aN (pA (aB (aa rfl) aV) fun H8 s8=>?_)
 refine⟨X,_,_,n.toNat - 1,a,Vbbhaj.initAt s n,rfl,r7.up s8,i1,fun H9 f9 r9=>?_⟩
 (try dsimp only)
 have hl9:H9 l=some (.lst (pI (Vbbhaj.ended s j e).2)):=f9 _ _ (s8 _ _ hl) rfl
 have ef:=Bc iv.g j e
 refine cI (B_ ((aa rfl).toL hl9) ((aa rfl).toL hl9) (by rw[jk];omega)) fun v H10 s10 lv=>d.go (r9.up s10) rfl ?_ ?_
 ·exact(s1.trans (s2.trans (s3.trans (s4.trans (s5.trans s6))))).fix.trans (fx.fix.trans (s8.fix.trans (f9.trans s10.fix)))
 ·rw[(TJ _).2]
  rw[jk]at lv
  exact lv
def aed(T:Txt K mg):Sp:=fun vs H Q _=>∃X A s i a x b j,vs=[.ref a,.ref b]∧RX T X H A s∧A.I[i]?=some (a,x)∧(b,j)∈A.L∧j.status=.waiting ∧
 ∀H',Fix H H'→RX T X H' {A with L:=A.L.map fun p=>if p.2.num=j.num then (p.1,{j with status:=.running,passed:=0,due:=0})else p,I:=A.I.set i (a,{x with job:=j.num})} {s with jobs:=Vbbhaj.setJob s.jobs {j with status:=.running,passed:=0,due:=0},inits:=s.inits.set i {x with job:=j.num}}→Q .non H'
theorem Vu(T:Txt K mg):bD P w K mg base CX0 1 T.uC.f T.uC.fd ["initiator","job"] (aed T):=by
 refine T.uC.F.ok V6 (fun vs H Q E ⟨_,_,_,_,_,_,_,_,e,_⟩=>by rw[e];rfl) fun cdv A outer s H vs Q E hr hsp=>⟨_,(ak (bG (pv 1) (bz T.nM rfl) rfl)
   (ak (bG (pv 1) aH rfl)
   (ak (bG (pv 1) aH rfl)
   (az (bG (pv 0) (aD (K:=K) (pv 1) rfl) rfl))))),?_⟩
 obtain⟨X,A,s,i,a,x,b,j,rfl,hx,hi,m,hw,k⟩:=hsp
 obtain⟨dx,na,ta,e4,n4,t4⟩:=hx.r.job _ m
 refine aN (bT aJ (aa rfl) (bM e4).2 T.bQ T.lC (JV.few _) fun H5 k5 e5=>?_)
 rw[JV.QC]at e5
 (try dsimp only)
 refine aN (bT aJ (aa rfl) e5 T.bQ T.gP (JV.few _) fun H6 k6 e6=>?_)
 rw[JV.Dk]at e6
 (try dsimp only)
 refine aN (bT aJ (aa rfl) e6 T.bQ T.eF (JV.few _) fun H7 k7 e7=>?_)
 rw[JV.wA]at e7
 (try dsimp only)
 have kj:Kp b H H7:=k5.trans (k6.trans k7)
 have r7:=hx.Gz (j':={j with status:=.running,passed:=0,due:=0}) m kj e4 n4 t4 (by
  rw[e7]
  unfold jv
  rw[hw]
  rfl) rfl rfl rfl
 have mj:(b,({j with status:=.running,passed:=0,due:=0}:Vbbhaj.Job))∈(A.L.map fun p=>if p.2.num=({j with status:=.running,passed:=0,due:=0}:Vbbhaj.Job).num then (p.1,({j with status:=.running,passed:=0,due:=0}:Vbbhaj.Job))else p) :=
  List.mem_map.mpr ⟨(b,j),m,if_pos rfl⟩
 obtain⟨dx2,ca,e0,c0⟩:=r7.r.int _ (List.mem_of_getElem? hi)
 obtain⟨nx,e0'⟩:=bM e0
 obtain⟨nc,c0'⟩:=bM c0
 refine bT (gC (aa rfl) (r7.rep.job _ mj)) (aa rfl) e0' T.bC T.fC (IV.few _) fun H8 k8 e8=>?_
 (try dsimp only)
 rw[IV.VB]at e8
 have r8:=r7.Dm (x':={x with job:=j.num}) hi k8 e0 (ca:=ca) e8 (k8 _ _ c0' (cB c0' e0' (by intro z;cases z))) nc
 exact k H8 ((qQ kj (bM e4).2).trans (oG k8 e0')) r8
theorem QT(l:List Vbbhaj.Job){j1 j2:Vbbhaj.Job}(e:j1.num=j2.num):Vbbhaj.setJob (Vbbhaj.setJob l j1) j2=Vbbhaj.setJob l j2:=by
 unfold Vbbhaj.setJob
 rw[List.map_map]
 refine List.map_congr_left fun x _=>?_
 show(if (if x.num=j1.num then j1 else x).num=j2.num then j2 else (if x.num=j1.num then j1 else x))=_
 by_cases h:x.num=j1.num
 ·rw[if_pos h,if_pos e,if_pos (h.trans e)]
 ·rw[if_neg h]
def adC(T:Txt K mg):Sp:=fun vs H Q _=>∃X A s l,∃F:List (Addr×Vbbhaj.Job),vs=[.ref A.b,.ref l]∧RX T X H A s∧H l=some (.lst (refs F))∧cV (F.map (·.2))∧(∀p∈F,p∈A.L) ∧
 ∀H' L,Fix H H'→RX T X H' {A with L:=L} {s with stamp:=(poF s.passes (F.map (·.2)) s.stamp s.jobs).1,jobs:=(poF s.passes (F.map (·.2)) s.stamp s.jobs).2}→(∀p∈A.L,(∀q∈F,q.2.num≠p.2.num)→p∈L)→Q .non H'
theorem Qy(T:Txt K mg):bD P w K mg base CX0 2 T.pC.f T.pC.fd ["board","jobs"] (adC T):=by
 refine T.pC.F.ok Fi (fun vs H Q E ⟨_,_,_,_,_,e,_⟩=>by rw[e];rfl) fun cdv A outer s H vs Q E hr hsp=>?_
 have hu:=d9 hr
 refine⟨_,(az (tU PassesOwn.never rfl (cY (pv 1)) (bL (i:=2) Fi.nd rfl (Or.inl rfl)) (ak (uF (pv 2) aH Gk)
   (az (a_ (PW.pt (KD (cD (bJ (aK T.kZ (uE T) (by exact hr.mono (by decide)) rfl (aj (pv 2) aq)))) (Fe (aR W3 (aD (K:=K) (pv 2) rfl) (aD (K:=K) (pv 0) rfl) (aQ _))))) (ak (uF (pv 0) aH Gk)
   (az (bG (pv 2) (aD (K:=K) (pv 0) rfl) rfl))) aL))))),?_⟩
 obtain⟨X,A,s,l,F,rfl,hx,hl,hs,hm,k⟩:=hsp
 refine T5 (K:=K) (xs:=refs F) (R:=IsL (refs F)) ((aa rfl).toL hl) (fun _ _ e=>e) fun l0 H3 s3 rn hl0=>⟨fun i σ' H'=>(∃o2,σ'=[some (.ref A.b),some (.ref l),o2])∧Fix H3 H'∧∃L,RX T X H' {A with L:=L} {s with stamp:=(poF s.passes ((F.take i).map (·.2)) s.stamp s.jobs).1,jobs:=(poF s.passes ((F.take i).map (·.2)) s.stamp s.jobs).2}∧∀p∈A.L,(∀q∈F.take i,q.2.num≠p.2.num)→p∈L,?_,?_,?_,?_⟩
 ·exact⟨⟨_,rfl⟩,Fix.refl _,A.L,hx.up s3,fun p hp _=>hp⟩
 ·rintro i σ' H' _ ⟨_,f,_⟩
  exact f _ _ hl0 rfl
 ·rintro i x σ' H' hx' ⟨⟨o2,rfl⟩,fx,L,rx,hk⟩
  unfold refs at hx'
  rw[List.getElem?_map]at hx'
  obtain⟨⟨b,y⟩,hy,rfl⟩:∃p,F[i]?=some p∧V.ref p.1=x:=by
   cases q:F[i]? with
   |none=>rw[q]at hx';cases hx'
   |some p=>rw[q]at hx';exact⟨p,rfl,Option.some.inj hx'⟩
  have hmF:=List.mem_of_getElem? hy
  have htk:F.take (i+1)=F.take i++[(b,y)]:=rO hy
  have hlt:∀q∈F.take i,q.2.num<y.num:=fun q hq=>by
   have hil:i<F.length:=(List.getElem?_eq_some_iff.mp hy).1
   have e:F=F.take i++(b,y)::F.drop (i+1):=by
    conv=>lhs;rw[← List.take_append_drop i F,List.drop_eq_getElem_cons hil,(List.getElem?_eq_some_iff.mp hy).2]
   rw[e,List.map_append,List.map_cons]at hs
   exact(List.pairwise_append.mp hs).2.2 q.2 (List.mem_map_of_mem (f:=(·.2)) hq) y List.mem_cons_self
  have my:(b,y)∈L:=hk _ (hm _ hmF) fun q hq=>by have:=hlt q hq;show q.2.num≠y.num;omega
  generalize hst:(poF s.passes ((F.take i).map (·.2)) s.stamp s.jobs).1=st at rx
  generalize hjs:(poF s.passes ((F.take i).map (·.2)) s.stamp s.jobs).2=js at rx
  have es:poF s.passes ((F.take (i+1)).map (·.2)) s.stamp s.jobs=(poS s.passes y st,Vbbhaj.setJob js (po1 s.passes y st)):=by
   rw[htk,List.map_append]
   show poF s.passes ((F.take i).map (·.2)++[y]) s.stamp s.jobs=_
   rw[SQ,hst,hjs]
  have fin:∀{H5:Hp} {o2:Option V} {L':List (Addr×Vbbhaj.Job)},RX T X H5 {A with L:=L'} {s with stamp:=poS s.passes y st,jobs:=Vbbhaj.setJob js (po1 s.passes y st)}→(∀p∈L,p.2.num≠y.num→p∈L')→Fix H3 H5 →
    (∃p2,[some (V.ref A.b),some (.ref l),o2]=[some (V.ref A.b),some (.ref l),p2])∧Fix H3 H5∧∃L,RX T X H5 {A with L:=L} {s with stamp:=(poF s.passes ((F.take (i+1)).map (·.2)) s.stamp s.jobs).1,jobs:=(poF s.passes ((F.take (i+1)).map (·.2)) s.stamp s.jobs).2}∧∀p∈A.L,(∀q∈F.take (i+1),q.2.num≠p.2.num)→p∈L:=by
   intro H5 o2 L' r5 h5 f5
   rw[es]
   refine⟨⟨_,rfl⟩,f5,L',r5,fun p hp hq=>h5 p (hk p hp fun q hq'=>hq q (by rw[htk];exact List.mem_append_left _ hq')) fun z=>?_⟩
   exact hq (b,y) (by rw[htk];simp) z.symm
  show nH _ _ _ _ _
  obtain⟨dx,na,ta,e4,n4,t4⟩:=rx.r.job _ my
  refine aN (GZ aJ (aa rfl) (bM e4).2 T.bQ T.eF (JV.few _) (JV.Ca _) fun H5 k5 e5=>?_)
  rw[JV.wA]at e5
  (try dsimp only)
  have r5:=rx.Gz (j':={y with passed:=y.passed+1}) my k5 e4 n4 t4 (by rw[e5];unfold jv;rfl) rfl rfl rfl
  have f5:=qQ k5 (bM e4).2
  have mj:(b,({y with passed:=y.passed+1}:Vbbhaj.Job))∈(L.map fun p=>if p.2.num=({y with passed:=y.passed+1}:Vbbhaj.Job).num then (p.1,({y with passed:=y.passed+1}:Vbbhaj.Job))else p) :=
   List.mem_map.mpr ⟨(b,y),my,if_pos rfl⟩
  have keep:∀{j':Vbbhaj.Job},j'.num=y.num→∀{L:List (Addr×Vbbhaj.Job)},∀p∈L,p.2.num≠y.num→p∈(L.map fun p=>if p.2.num=j'.num then (p.1,j')else p):=fun e L p hp hn=>List.mem_map.mpr ⟨p,hp,if_neg (by rw[e];exact hn)⟩
  have jb:=r5.rep.job _ mj
  refine Ft (b:=!decide (y.due≠0)&&decide ((s.passes:Int)≤((y.passed+1:Nat):Int))) (EvT.cast (JR (cC (fB (n6 (aa rfl) jb))) fun _=>aP (eY (xm (aa rfl) jb) (acR (A:={A with L:=L.map fun p=>if p.2.num=({y with passed:=y.passed+1}:Vbbhaj.Job).num then (p.1,({y with passed:=y.passed+1}:Vbbhaj.Job))else p}) (aa rfl) r5.rep))) rfl) (fun q H6 s6=>?_) fun q H6 s6=>?_
  ·have q:y.due=0∧s.passes≤y.passed+1:=by
    simp only[Bool.and_eq_true,decide_eq_true_eq,Bool.not_eq_true',decide_eq_false_iff_not]at q
    omega
   have r6:=r5.up s6
   obtain⟨dxb,eb⟩:=r6.r.brd
   obtain⟨nxb,eb'⟩:=bM eb
   show nH _ _ _ _ _
   refine aN (GZ aJ (aa rfl) eb' T.bN T.fc (BV.few _) (BV.yM _) fun H7 k7 e7=>?_)
   rw[BV.yP]at e7
   (try dsimp only)
   have r7:RX T X H7 _ {s with stamp:=st+1,jobs:=Vbbhaj.setJob js {y with passed:=y.passed+1}}:=⟨r6.r.V7 k7.hid (s':={s with stamp:=st+1,jobs:=Vbbhaj.setJob js {y with passed:=y.passed+1}}) (by
    rw[b_ nxb,e7]
    unfold bv
    rw[show((st+1:Nat):Int) - 1=(st:Int) - 1+1 by omega]) rfl rfl rfl,r6.keep k7 nxb⟩
   obtain⟨dx8,na8,ta8,e8,n8,t8⟩:=r7.r.job _ mj
   refine bT ((CN (A:={A with L:=L.map fun p=>if p.2.num=({y with passed:=y.passed+1}:Vbbhaj.Job).num then (p.1,({y with passed:=y.passed+1}:Vbbhaj.Job))else p}) (aa rfl) r7.rep).cast (w:=.int (st:Nat)) (by show V.int (((st+1:Nat):Int) - 1)=_;congr 1;omega)) (aa rfl) (bM e8).2 T.bQ T.gP (JV.few _) fun H9 k9 e9=>?_
   (try dsimp only)
   rw[JV.Dk]at e9
   have r9:=r7.Gz (j':={y with passed:=y.passed+1,due:=st}) mj k9 e8 n8 t8 (by rw[e9];unfold jv;rfl) rfl rfl rfl
   have e1:po1 s.passes y st={y with passed:=y.passed+1,due:=st}:=by unfold po1;rw[if_pos q]
   have e2:poS s.passes y st=st+1:=if_pos q
   refine fin (L':=((L.map fun p=>if p.2.num=y.num then (p.1,({y with passed:=y.passed+1}:Vbbhaj.Job))else p).map fun p=>if p.2.num=y.num then (p.1,({y with passed:=y.passed+1,due:=st}:Vbbhaj.Job))else p)) (by
    rw[e1,e2]
    have:=r9
    rw[show Vbbhaj.setJob (Vbbhaj.setJob js {y with passed:=y.passed+1}) {y with passed:=y.passed+1,due:=st}=Vbbhaj.setJob js {y with passed:=y.passed+1,due:=st}from QT js rfl]at this
    exact this) (fun p hp hn=>keep (j':={y with passed:=y.passed+1,due:=st}) rfl p (keep (j':={y with passed:=y.passed+1}) rfl p hp hn) hn) (fx.trans (f5.trans (s6.fix.trans ((k7.fix eb' (Iz _ _ _)).trans (qQ k9 (bM e8).2)))))
  ·have q:¬(y.due=0∧s.passes≤y.passed+1):=fun z=>by
    simp only[Bool.and_eq_false_iff,decide_eq_false_iff_not,Bool.not_eq_false',decide_eq_true_eq]at q
    omega
   have e1:po1 s.passes y st={y with passed:=y.passed+1}:=by unfold po1;rw[if_neg q]
   have e2:poS s.passes y st=st:=if_neg q
   refine fin (L':=(L.map fun p=>if p.2.num=y.num then (p.1,({y with passed:=y.passed+1}:Vbbhaj.Job))else p)) (by rw[e1,e2];exact r5.up s6) (fun p hp hn=>keep (j':={y with passed:=y.passed+1}) rfl p hp hn) (fx.trans (f5.trans s6.fix))
 ·rintro σ' H' ⟨⟨o2,rfl⟩,fx,L,rx,hk⟩
  have hlen:(refs F).length=F.length:=by unfold refs;rw[List.length_map]
  rw[hlen,List.take_length]at rx hk
  exact k H' L (s3.fix.trans fx) rx hk
end
end Jq
end
section
set_option Elab.async false
set_option linter.all false
set_option maxRecDepth 100000
set_option maxHeartbeats 1000000
namespace Jq
open PySem PySem.Spec PyProof.Rows L2
section
variable {P:Program}{w:World}{K:PySem.W.Frag}{mg:Str→Option Value}{base:Heap}
variable {σ:St}{H:Hp}{ta tb tc td:TE}{a:Addr}{j:Vbbhaj.Job}{A:Ad}{s:Vbbhaj.State}{T:Txt K mg}{X:Addr→Prop}{D:Ends}
theorem Y8{to te:TE}{l b:Addr}{xs zs:List V}(ho:Ev to σ H (.ref l))(he:Ev te σ H (.ref b))(hl:H l=some (.lst xs))(hb:H b=some (.tup zs))(hz:xs.length+zs.length≤sizeLine)
  (k:∀H',Kp l H H'→H' l=some (.lst (xs++zs))→D.nx σ H'):Oj (tBM K "list" S7 to (bw te eV)) D σ H :=
 Ev.use ho fun H1 s1=>⟨.inl ⟨rfl,_,SqL.of (s1 _ _ hl)⟩,Ev.use (he.up s1) fun H2 s2=>⟨l,b,xs,zs,rfl,rfl,s2 _ _ (s1 _ _ hl),s2 _ _ (s1 _ _ hb),hz,k _ (((s1.trans s2).kp l).trans (Kp.upd l H2 _)) aX⟩⟩
theorem T4{to te:TE}{l:Addr}{xs zs:List V}(ho:Ev to σ H (.ref l))(he:EvL te σ H zs)(hl:H l=some (.lst xs))(hz:xs.length+zs.length≤sizeLine)
  (k:∀H',Kp l H H'→H' l=some (.lst (xs++zs))→D.nx σ H'):Oj (tBM K "list" Xa to (bw te eV)) D σ H :=
 Ev.use ho fun H1 s1=>⟨.inl ⟨rfl,_,SqL.of (s1 _ _ hl)⟩,EvP.use (he.up s1) fun v H2 s2 ⟨b,e,hb⟩=>⟨l,b,xs,zs,rfl,by rw[e],s2 _ _ (s1 _ _ hl),hb,hz,k _ (((s1.trans s2).kp l).trans (Kp.upd l H2 _)) aX⟩⟩
def t3(t:Int×Int×Int):List V:=[.int t.1,.int t.2.1,.int t.2.2]
theorem aaY(ts:List Vbbhaj.Test):(ts.map tri).flatMap t3=pI (ts.flatMap fun t=>[t.job,t.kind,t.n]):=by
 induction ts with
 |nil=>rfl
 |cons t r ih =>
  rw[List.map_cons,List.flatMap_cons,List.flatMap_cons,ih]
  unfold pI
  rw[List.map_append]
  rfl
theorem aaX(l:List (Int×Int×Int)):(l.flatMap t3).length=3 * l.length:=by
 induction l with
 |nil=>rfl
 |cons t r ih=>rw[List.flatMap_cons,List.length_append,ih,List.length_cons];show 3+_=_;omega
theorem MP(T:Txt K mg):bD P w K mg base CX0 3 T.mH.f T.mH.fd ["board","number"] (ro (gQ1 T .tests)):=by
 refine cO T.mH.F nW (fun vs H R ⟨_,_,_,e,_⟩=>by rw[e];rfl) fun cdv A outer s H E hr=>?_
 have hu:=d9 hr
 refine⟨_,(ak (bu (i:=2) nW.nd rfl (Or.inl rfl) (aK T.cQ (iB T) (by exact hr.mono (by decide)) rfl (aj (pv 0) (aj (pv 1) aq))))
   (ak (a_ (aR ju (pv 2) (bz T.aW rfl) (aQ _)) (az (aC (bc (aj (pv 2) aq)))) aL)
   (ak (bu (i:=3) nW.nd rfl (Or.inl rfl) (aD (K:=K) (cM (by exact hu) (aD (K:=K) (pv 0) rfl) (pv 1) (fun _ _=>rfl)) rfl))
   (ak (bu (i:=4) nW.nd rfl (Or.inl rfl) (bc aq))
   (ak (tU PassesOwn.never rfl (cY (pv 3)) (bL (i:=5) nW.nd rfl (Or.inl rfl)) (az (iT (N6 PySem.F.plainAttrs_list PySem.F.slot_list_extend PySem.F.type_list_extend Vm (pv 4) (aj (pv 5) aq)))))
   (az (aC (jw p_ (bc (aj (bR bB rfl T.jo fX (aj (pv 3) aq)) aq)) (aK T.dJ (gk T) (by exact hr.mono (by decide)) rfl (aj (pv 4) aq)))))))))),?_⟩
 rintro vs R ⟨A,s,n,rfl,h,iv,rfl⟩
 refine pL (xn (aa rfl) (aa rfl) h) ?_
 refine d7 (aP (fM (aa rfl) aJ)) (fun q=>aU ((aZ (aa rfl)).cast ?_)) fun q=>?_
 ·have e:Vbbhaj.step s (.tests n)=_:=z8 (u_.mp (jr q))
  rw[e];rfl
 have q:fO s n=0:=by simpa using q
 obtain⟨j,hj,hf⟩:=rJ q
 obtain⟨a,m,e⟩:=h.pair hj
 have hstep:Vbbhaj.step s (.tests n)=_:=hf _
 rw[hstep]
 have v0:Ev (cu 0) ((start ["board","number","refusal","tests","row","test"] [V.ref A.b,.int n]).set 2 (some (.int (fO s n)))) H (.ref A.b):=aa rfl
 have v1:Ev (cu 1) ((start ["board","number","refusal","tests","row","test"] [V.ref A.b,.int n]).set 2 (some (.int (fO s n)))) H (.int n):=aa rfl
 obtain⟨l,hl,ps,ep,htr⟩:=JS (h.get (cA v0 h) v1 m e) (h.job _ m)
 refine pL hl ?_
 have hlen:ps.length=j.tests.length:=Hf ep
 have hfew:ps.length≤8:=by rw[hlen];exact(iv.g.ok j (xq h m)).few
 intro H1 s1 D k
 have ht1:=vY _ _ _ s1 htr
 obtain⟨l',e',hl1,hp1⟩:=id ht1
 cases e'
 refine aN (vC (ye aV (Nat.zero_le _)) ?_)
 rintro v H2 s2 ⟨lr,rfl,n2,hr2⟩
 (try dsimp only)
 have nl:l≠lr:=fun z=>by rw[z,n2]at hl1;cases hl1
 have el:EvP (cu 3) [some (.ref A.b),some (.int n),some (.int (fO s n)),some (.ref l),some (.ref lr),none] H2 (fun v H'=>v=.ref l∧H' l=some (.lst (ps.map fun p=>V.ref p.1))):=(aa (v:=.ref l) rfl).imp fun v H' s' e=>⟨e,s' _ _ (s2 _ _ hl1)⟩
 refine aN (T5 (K:=K) (xs:=ps.map fun p=>V.ref p.1) el (fun _ _ e=>⟨l,e⟩) fun l0 H3 s3 rn hl0=>⟨fun i σ' H'=>(∃o5,σ'=[some (.ref A.b),some (.int n),some (.int (fO s n)),some (.ref l),some (.ref lr),o5])∧Kp lr H3 H'∧H' lr=some (.lst (((ps.take i).map (·.2)).flatMap t3)),?_,?_,?_,?_⟩)
 ·exact⟨⟨_,rfl⟩,Kp.refl _ _,s3 _ _ hr2⟩
 ·rintro i σ' H' _ ⟨_,kp,_⟩
  obtain⟨e9,_⟩:=rn
  cases e9
  exact kp _ _ hl0 nl
 ·rintro i x σ' H' hx' ⟨⟨o5,rfl⟩,kp,hr'⟩
  rw[List.getElem?_map]at hx'
  obtain⟨p,hy,rfl⟩:∃p,ps[i]?=some p∧V.ref p.1=x:=by
   cases q:ps[i]? with
   |none=>rw[q]at hx';cases hx'
   |some p=>rw[q]at hx';exact⟨p,rfl,Option.some.inj hx'⟩
  have mp:=List.mem_of_getElem? hy
  have hp3:H3 p.1=some (.tup (t3 p.2)):=s3 _ _ (s2 _ _ (hp1 p mp))
  have npl:p.1≠lr:=cB hp3 (s3 _ _ hr2) (by intro z;cases z)
  have hil:i<ps.length:=(List.getElem?_eq_some_iff.mp hy).1
  refine Y8 (aa rfl) (aa rfl) hr' (kp _ _ hp3 npl) ?_ fun H5 k5 e5=>⟨⟨_,rfl⟩,kp.trans k5,?_⟩
  ·rw[aaX,List.length_map,List.length_take]
   show _+3≤_
   exact sI (by omega)
  ·rw[e5,rO hy,List.map_append,List.flatMap_append]
   simp only[List.map_cons,List.map_nil,List.flatMap_cons,List.flatMap_nil,List.append_nil]
 ·rintro σ' H' ⟨⟨o5,rfl⟩,kp,hr'⟩
  rw[List.length_map,List.take_length,ep,aaY]at hr'
  (try dsimp only)
  have hl':H' l=some (.lst (ps.map fun p=>V.ref p.1)):=kp _ _ (s3 _ _ (s2 _ _ hl1)) nl
  have hrl:(pI (j.tests.flatMap fun t=>[t.job,t.kind,t.n])).length≤24:=by rw[← aaY,aaX,List.length_map];omega
  refine cI (mL (aZ (mK (n:=j.tests.length) ((aa rfl).toL hl') (by rw[List.length_map,hlen]))) (gM (xs:=pI (j.tests.flatMap fun t=>[t.job,t.kind,t.n])) ((aa rfl).toL hr') (iw (by omega))) (sI (by simp only[List.length_cons,List.length_nil];omega))) fun v H6 s6 lv=>k v H6 ?_ ?_
  ·intro b o eb
   have hb:b≠lr:=fun z=>by rw[z,n2]at eb;cases eb
   exact s6 _ _ (kp _ _ (s3 _ _ (s2 _ _ eb)) hb)
  ·have e2:vO (Vbbhaj.yes s j.tests.length [j.tests.flatMap fun t=>[t.job,t.kind,t.n]]).2=_:=Jg ((j.tests.length:Nat):Int) _
   rw[e2]
   rw[jk]at lv
   exact lv
theorem Oo{α:Type}(f:α→V):∀(l:List α) (n:Nat),(gm f n l).map (·.1)=((List.range l.length).map fun i:Nat=>((n+i:Nat):Int)).map (Sum.inl:Int→Key)
 |[],n=>rfl
 |x::r,n=>by
  show Sum.inl (n:Int)::(gm f (n+1) r).map (·.1)=_
  rw[Oo f r (n+1),List.length_cons,List.range_succ_eq_map,List.map_cons,List.map_cons,List.map_map,List.map_map,List.map_map]
  congr 1
  refine List.map_congr_left fun i _=>?_
  show Sum.inl ((n+1+i:Nat):Int)=Sum.inl ((n+(i+1):Nat):Int)
  rw[show n+1+i=n+(i+1)by omega]
def GJ(s:Vbbhaj.State)(i:Nat):List Nat:=if 0<(s.inits.getD i {}).job then [i+1,(s.inits.getD i {}).job]else []
theorem KR(s:Vbbhaj.State)(l:List Nat):(l.filter fun i=>decide (0<(s.inits.getD i {}).job)).flatMap (fun i=>[i+1,(s.inits.getD i {}).job])=l.flatMap (GJ s):=by
 induction l with
 |nil=>rfl
 |cons i r ih =>
  rw[List.flatMap_cons,List.filter_cons]
  unfold GJ at ih ⊢
  by_cases h:0<(s.inits.getD i {}).job
  ·rw[if_pos (by simpa using h),List.flatMap_cons,ih,if_pos h]
  ·rw[if_neg (by simpa using h),ih,if_neg h,List.nil_append]
theorem Ja(s:Vbbhaj.State)(l:List Nat):(l.flatMap (GJ s)).length=2 * (l.filter fun i=>decide (0<(s.inits.getD i {}).job)).length:=by
 rw[← KR]
 induction (l.filter fun i=>decide (0<(s.inits.getD i {}).job))with
 |nil=>rfl
 |cons i r ih=>rw[List.flatMap_cons,List.length_append,ih];show 2+2 * r.length=2 * (r.length+1);omega
theorem Ik(T:Txt K mg):bD P w K mg base CX0 2 T.iW.f T.iW.fd ["board"] (ro (gQ0 T .running)):=by
 refine cO T.iW.F ou (fun vs H R ⟨_,_,e,_⟩=>by rw[e];rfl) fun cdv A outer s H E hr=>?_
 have hu:=d9 hr
 refine⟨_,(ak (bu (i:=1) ou.nd rfl (Or.inl rfl) (bc aq))
   (ak (tU PassesOwn.never rfl (cY (bR (xZ rfl) rfl T.vD wR (aj (aD (K:=K) (pv 0) rfl) aq))) (bL (i:=2) ou.nd rfl (Or.inl rfl)) (ak (bu (i:=3) ou.nd rfl (Or.inl rfl) (aD (K:=K) (cM (by exact hu) (aD (K:=K) (pv 0) rfl) (pv 2) (fun _ _=>rfl)) rfl))
   (az (a_ (aR ju (pv 3) aH (aQ _)) (az (iT (N6 PySem.F.plainAttrs_list PySem.F.slot_list_extend PySem.F.type_list_extend NT (pv 1) (aj (bc (aj (pv 2) (aj (pv 3) aq))) aq)))) aL))))
   (az (aC (jw p_ (bc (aj (jw Qz (bR bB rfl T.jo fX (aj (pv 1) aq)) aH) aq)) (aK T.dJ (gk T) (by exact hr.mono (by decide)) rfl (aj (pv 1) aq))))))),?_⟩
 rintro vs R ⟨A,s,rfl,h,iv,rfl⟩
 have hI:A.I.length=16:=by rw[← iv.g.Ij,← h.is,List.length_map]
 intro H1 s1 D k
 have h1:=h.up s1
 refine aN (vC (ye aV (Nat.zero_le _)) ?_)
 rintro v H2 s2 ⟨lr,rfl,n2,hr2⟩
 (try dsimp only)
 have h2:=h1.up s2
 have hk:=Oo (fun p:Addr×Vbbhaj.Init=>V.ref p.1) A.I 1
 have hrise:((List.range A.I.length).map fun i:Nat=>((1+i:Nat):Int)).Pairwise (·<·):=by
  rw[List.pairwise_map]
  exact List.pairwise_lt_range.imp fun h=>by omega
 refine aN (T5 (K:=K) (Hv (a:=A.di) (bU (aa rfl) h2) h2.ini hk hrise) (fun _ _=>IsN.l) fun l0 H3 s3 rn hl0=>⟨fun i σ' H'=>(∃o2 o3,σ'=[some (.ref A.b),some (.ref lr),o2,o3])∧Kp lr H3 H'∧H' lr=some (.lst (pI ((List.range i).flatMap (GJ s)))),?_,?_,?_,?_⟩)
 ·exact⟨⟨_,_,rfl⟩,Kp.refl _ _,s3 _ _ hr2⟩
 ·rintro i σ' H' _ ⟨_,kp,_⟩
  obtain⟨_,e9,n9,_⟩:=rn
  cases e9
  exact kp _ _ hl0 fun z=>by rw[z,hr2]at n9;cases n9
 ·rintro i x σ' H' hx' ⟨⟨o2,o3,rfl⟩,kp,hr'⟩
  rw[List.map_map,List.getElem?_map]at hx'
  have hil:i<A.I.length:=by
   cases q:(List.range A.I.length)[i]? with
   |none=>rw[q]at hx';cases hx'
   |some p=>have:=(List.getElem?_eq_some_iff.mp q).1;rw[List.length_range]at this;exact this
  rw[List.getElem?_range hil]at hx'
  have hx':x=.int ((1+i:Nat):Int):=(Option.some.inj hx').symm
  subst hx'
  have sk:∀b o,H1 b=some o→H' b=some o:=fun b o eb=>kp _ _ (s3 _ _ (s2 _ _ eb)) fun z=>by rw[z,n2]at eb;cases eb
  have h':=h1.up sk
  obtain⟨⟨ai,xi⟩,hai⟩:∃p,A.I[i]?=some p:=⟨_,List.getElem?_eq_getElem hil⟩
  have e2:=xO (fun p:Addr×Vbbhaj.Init=>V.ref p.1) A.I 1 i _ hai
  have i3:=h'.int _ (List.mem_of_getElem? hai)
  have exi:s.inits.getD i {}=xi:=by
   rw[← h.is,List.getD_eq_getElem?_getD,List.getElem?_map,hai]
   rfl
  have hi16:i<16:=by omega
  have len':(pI ((List.range i).flatMap (GJ s))).length≤32:=by
   rw[jk,Ja]
   have:=List.length_filter_le (fun i=>decide (0<(s.inits.getD i {}).job)) (List.range i)
   rw[List.length_range]at this
   omega
  show nH _ _ _ _ _
  refine aN (iG (mJ (fK (bU (aa rfl) h') (aa rfl) h'.ini e2) i3) fun H5 s5=>?_)
  (try dsimp only)
  have er:(List.range (i+1)).flatMap (GJ s)=(List.range i).flatMap (GJ s)++GJ s i:=by
   rw[List.range_succ,List.flatMap_append]
   simp only[List.flatMap_cons,List.flatMap_nil,List.append_nil]
  refine Ft (aP (fM (aa rfl) aJ)) (fun q H6 s6=>?_) fun q H6 s6=>?_
  ·have q:xi.job≠0:=by have:=jr q;simpa using this
   refine T4 (aa rfl) (yd (aB (aa rfl) (aB (aa rfl) aV)) (by show 2≤sizeLine;decide)) (s6 _ _ (s5 _ _ hr')) ?_ fun H7 k7 e7=>⟨⟨_,_,rfl⟩,kp.trans (((s5.trans s6).kp lr).trans k7),?_⟩
   ·show _+2≤_
    exact sI (by omega)
   ·rw[e7,er]
    unfold pI
    rw[List.map_append]
    unfold GJ
    rw[exi,if_pos (by omega),show 1+i=i+1 by omega]
    rfl
  ·have q:xi.job=0:=by simpa using q
   refine⟨⟨_,_,rfl⟩,kp.trans ((s5.trans s6).kp lr),?_⟩
   rw[er]
   unfold GJ
   rw[exi,if_neg (by omega),List.append_nil]
   exact s6 _ _ (s5 _ _ hr')
 ·rintro σ' H' ⟨⟨o2,o3,rfl⟩,kp,hr'⟩
  rw[List.length_map,List.length_map,List.length_range,hI]at hr'
  (try dsimp only)
  have len':(pI ((List.range 16).flatMap (GJ s))).length=2 * ((List.range 16).filter fun i=>decide (0<(s.inits.getD i {}).job)).length:=by rw[jk,Ja]
  have lf:((List.range 16).filter fun i=>decide (0<(s.inits.getD i {}).job)).length≤16:=by
   have:=List.length_filter_le (fun i=>decide (0<(s.inits.getD i {}).job)) (List.range 16)
   rw[List.length_range]at this
   exact this
  refine cI (mL (aZ (Iw (i:=((pI ((List.range 16).flatMap (GJ s))).length:Nat)) (j:=2) (zy ((aa rfl).toL hr')) aJ (by first | exact⟨by omega,by omega⟩ | omega))) (gM ((aa rfl).toL hr') (iw (by omega))) (sI (by simp only[List.length_cons,List.length_nil];omega))) fun v H6 s6 lv=>k v H6 ?_ ?_
  ·intro b o eb
   have hb:b≠lr:=fun z=>by rw[z,n2]at eb;cases eb
   exact s6 _ _ (kp _ _ (s3 _ _ (s2 _ _ eb)) hb)
  ·have e2:vO (Vbbhaj.step s .running).2=_:=Jg ((((List.range 16).filter fun i=>decide (0<(s.inits.getD i {}).job)).length:Nat):Int) ((((List.range 16).filter fun i=>decide (0<(s.inits.getD i {}).job))).flatMap fun i=>[i+1,(s.inits.getD i {}).job])
   rw[e2,KR]
   rw[jk]at lv
   refine lv.imp fun b hb=>⟨hb.1,hb.2.trans ?_⟩
   have e3:((((List.range 16).flatMap (GJ s)).length:Nat):Int) / 2=((((List.range 16).filter fun i=>decide (0<(s.inits.getD i {}).job)).length:Nat):Int):=by rw[Ja];omega
   rw[e3]
   rfl
end
end Jq
end
section
set_option Elab.async false
set_option linter.all false
set_option maxRecDepth 100000
set_option maxHeartbeats 1000000
namespace Jq
open PySem PySem.Spec PyProof.Rows L2
theorem BV.aai(v:BV):v.fs.lookup ("renew" : Str)=none:=aF (by decide +kernel) (aF (by decide +kernel) (aF (by decide +kernel) (aF (by decide +kernel) (aF (by decide +kernel) (aF (by decide +kernel) (aF (by decide +kernel) (aF (by decide +kernel) (aF (by decide +kernel) (aF (by decide +kernel) rfl)))))))))
theorem rT(f:Str)(v:V):∀fs:List (Str×V),(bK f v fs).length≤fs.length+1
 |[]=>Nat.le_refl _
 |(g,x)::r=>by
  show(if g=f then (g,v)::r else (g,x)::bK f v r).length≤_
  split
  ·exact Nat.le_succ _
  ·show(bK f v r).length+1≤r.length+1+1
   have:=rT f v r
   omega
theorem YC{fs:List (Str×V)}(h:fs=[]∨∃v:BV,fs=v.fs)(c k a t ln ld:Int)(dj dl dc di:Addr) :
  bK "initiators" (.ref di) (bK "closed" (.ref dc) (bK "limits" (.ref dl) (bK "last_due_turn" (.int ld) (bK "last_number" (.int ln) (bK "jobs" (.ref dj) (bK "time" (.int t) (bK "a" (.int a) (bK "k" (.int k) (bK "cap" (.int c) fs)))))))))=(BV.mk c k a t dj ln ld dl dc di).fs:=by
 rcases h with rfl|⟨v,rfl⟩
 ·rw[BV.adX,BV.i_k,BV.i_a,BV.acZ,BV.acW,BV.Mt,BV.Ib,BV.ZX,BV.ZW,BV.Qj]
  rfl
 ·rw[BV.ad2,BV.p_k,BV.p_a,BV.aau,BV.adn,BV.Cm,BV.yP,BV.aat,BV.aas,BV.QB]
section
variable {P:Program}{w:World}{K:PySem.W.Frag}{mg:Str→Option Value}{base:Heap}
variable {σ:St}{H:Hp}{ta tb tc td:TE}{a:Addr}{j:Vbbhaj.Job}{A:Ad}{s:Vbbhaj.State}{T:Txt K mg}{X:Addr→Prop}{D:Ends}
def IsD(H:Hp)(v:V)(H':Hp):Prop:=∃l,v=.ref l∧H l=none∧H' l=some (.dK [])
theorem Ej:EvP aa0 σ H (IsD H):=fun H1 s Q k p hp=>k _ _ (jl hp) ⟨p,rfl,s.free hp,aX⟩
theorem Ek{C:Addr}{sp:Sp}{t:TA}{RA:List V→Hp→Prop}{R:V→Hp→Prop}(ha:EvA t σ H RA)
  (k:∀vs H1 x dx,aY H H1→RA vs H1→H1 x=none→H1 dx=none→dx≠x→∀Q:VK,(∀H',aY H1 H'→R (.ref x) H'→Q .non H')→sp (.ref x::vs) (upd (upd H1 dx (.own x)) x (.ins C dx [])) Q E0):EvP (Ol C sp [] E0 t) σ H R:=fun H0 s0 Q q =>
 ha H0 s0 _ fun vs H1 s1 r x dx hx hd n=>by
  rw[List.append_nil]
  exact k vs H1 x dx (s0.trans s1) r hx hd n _ fun H' s' r'=>⟨rfl,q _ _ (s1.trans s') r'⟩
theorem Bm{C:Addr}{H1:Hp}{x dx:Addr}(hx:H1 x=none)(hd:H1 dx=none):∀{H':Hp},Kp x (upd (upd H1 dx (.own x)) x (.ins C dx [])) H'→aY H1 H':=fun k b o e=>by
 have hb:b≠x:=bj e hx
 refine k b o ?_ hb
 rw[aO hb,aO (bj e hd)]
 exact e
theorem Ym{C:Addr}{H1:Hp}{x dx l:Addr}(h:upd (upd H1 dx (.own x)) x (.ins C dx []) l=none):H1 l=none:=by
 by_cases h1:l=x
 ·rw[h1,aX]at h;cases h
 ·rw[aO h1]at h
  by_cases h2:l=dx
  ·rw[h2,aX]at h;cases h
  ·rw[aO h2]at h;exact h
def Oh(T:Txt K mg):Sp:=fun vs H Q _=>∃x dx n na c p h ta,vs=[.ref x,.int n,.ref na,.int c,.int p,.bl h,.ref ta]∧H x=some (.ins T.gU dx []) ∧
 ∀H',Kp x H H'→H' x=some (.ins T.gU dx (JV.mk n na c p h ta 0 0 0 0 0).fs)→Q .non H'
theorem lt1000{n:Nat}(h:n≤20):n<1000:=by omega
theorem Sv(T:Txt K mg):bD P w K mg base CX0 1 T.kW.f T.kW.fd ["self","number","name","class_of","priority","held","tests"] (Oh T):=by
 refine T.kW.F.ok Te (fun vs H Q E ⟨_,_,_,_,_,_,_,_,e,_⟩=>by rw[e];rfl) fun cdv A outer s H vs Q E hr hsp=>⟨_,(ak (bG (pv 0) (pv 1) rfl)
   (ak (bG (pv 0) (pv 2) rfl)
   (ak (bG (pv 0) (pv 3) rfl)
   (ak (bG (pv 0) (pv 4) rfl)
   (ak (bG (pv 0) (pv 5) rfl)
   (ak (bG (pv 0) (pv 6) rfl)
   (ak (bG (pv 0) (bz T.l_ rfl) rfl)
   (ak (bG (pv 0) aH rfl)
   (ak (bG (pv 0) aH rfl)
   (ak (bG (pv 0) aH rfl)
   (az (bG (pv 0) aH rfl)))))))))))),?_⟩
 obtain⟨x,dx,n,na,c,p,h,ta,rfl,e0,k⟩:=hsp
 refine aN (bT (aa rfl) (aa rfl) e0 T.bQ T.uv (lt1000 (by decide)) fun H1 k1 e1=>?_)
 (try dsimp only)
 rw[JV.ZZ]at e1
 refine aN (bT (aa rfl) (aa rfl) e1 T.bQ T.uN (lt1000 (by show 1≤20;decide)) fun H2 k2 e2=>?_)
 (try dsimp only)
 rw[JV.acX]at e2
 refine aN (bT (aa rfl) (aa rfl) e2 T.bQ T.lA (lt1000 (by show 2≤20;decide)) fun H3 k3 e3=>?_)
 (try dsimp only)
 rw[JV.U8]at e3
 refine aN (bT (aa rfl) (aa rfl) e3 T.bQ T.lB (lt1000 (by show 3≤20;decide)) fun H4 k4 e4=>?_)
 (try dsimp only)
 rw[JV.Va]at e4
 refine aN (bT (aa rfl) (aa rfl) e4 T.bQ T.oH (lt1000 (by show 4≤20;decide)) fun H5 k5 e5=>?_)
 (try dsimp only)
 rw[JV.acV]at e5
 refine aN (bT (aa rfl) (aa rfl) e5 T.bQ T.iy (lt1000 (by show 5≤20;decide)) fun H6 k6 e6=>?_)
 (try dsimp only)
 rw[JV.abD]at e6
 refine aN (bT aJ (aa rfl) e6 T.bQ T.lC (lt1000 (by show 6≤20;decide)) fun H7 k7 e7=>?_)
 (try dsimp only)
 rw[JV.abC]at e7
 refine aN (bT aJ (aa rfl) e7 T.bQ T.uM (lt1000 (by show 7≤20;decide)) fun H8 k8 e8=>?_)
 (try dsimp only)
 rw[JV.acU]at e8
 refine aN (bT aJ (aa rfl) e8 T.bQ T.pP (lt1000 (by show 8≤20;decide)) fun H9 k9 e9=>?_)
 (try dsimp only)
 rw[JV.Z0]at e9
 refine aN (bT aJ (aa rfl) e9 T.bQ T.eF (lt1000 (by show 9≤20;decide)) fun H10 k10 e10=>?_)
 (try dsimp only)
 rw[JV.Mu]at e10
 refine bT aJ (aa rfl) e10 T.bQ T.gP (lt1000 (by show 10≤20;decide)) fun H11 k11 e11=>?_
 (try dsimp only)
 rw[JV.U_]at e11
 exact k H11 (k1.trans (k2.trans (k3.trans (k4.trans (k5.trans (k6.trans (k7.trans (k8.trans (k9.trans (k10.trans k11)))))))))) e11
def Og(T:Txt K mg):Sp:=fun vs H Q _=>∃x dx,vs=[.ref x]∧H x=some (.ins T.bV dx []) ∧
 ∀H' l,Kp x H H'→H l=none→H' l=some (.lst [])→H' x=some (.ins T.bV dx (IV.mk false l false 0).fs)→Q .non H'
theorem Eu(T:Txt K mg):bD P w K mg base CX0 1 T.dH.f T.dH.fd ["self"] (Og T):=by
 refine T.dH.F.ok Ff (fun vs H Q E ⟨_,_,e,_⟩=>by rw[e];rfl) fun cdv A outer s H vs Q E hr hsp=>⟨_,(ak (bG (pv 0) lN rfl)
   (ak (bG (pv 0) (bc aq) rfl)
   (ak (bG (pv 0) lN rfl)
   (az (bG (pv 0) aH rfl))))),?_⟩
 obtain⟨x,dx,rfl,e0,k⟩:=hsp
 refine aN (bT aJ (aa rfl) e0 T.bC T.i_ (lt1000 (by decide)) fun H1 k1 e1=>?_)
 (try dsimp only)
 rw[IV.aen]at e1
 refine aN (nZ (ye aV (Nat.zero_le _)) (aa rfl) e1 T.bC T.du (lt1000 (by show 1≤20;decide)) ?_)
 rintro y H3 H4 s3 ⟨l,rfl,hl0,hl⟩ k4 e4
 (try dsimp only)
 rw[IV.Yb]at e4
 have hl4:H4 l=some (.lst []):=k4 _ _ hl (cB hl (s3 _ _ e1) (by intro z;cases z))
 refine aN (bT aJ (aa rfl) e4 T.bC T.cH (lt1000 (by show 2≤20;decide)) fun H5 k5 e5=>?_)
 (try dsimp only)
 rw[IV.U9]at e5
 have hl5:=k5 _ _ hl4 (cB hl4 e4 (by intro z;cases z))
 refine bT aJ (aa rfl) e5 T.bC T.fC (lt1000 (by show 3≤20;decide)) fun H6 k6 e6=>?_
 (try dsimp only)
 rw[IV.acY]at e6
 exact k H6 l (k1.trans ((s3.kp x).trans (k4.trans (k5.trans k6)))) (k1.free e0 hl0 e1) (k6 _ _ hl5 (cB hl5 e5 (by intro z;cases z))) e6
def IsI(T:Txt K mg)(H:Hp)(v:V)(H':Hp):Prop:=∃x dx l,v=.ref x∧H x=none∧H l=none∧H' x=some (.ins T.bV dx (IV.mk false l false 0).fs)∧H' l=some (.lst [])
theorem abw:EvP (Ol T.bV (Og T) [] E0 eV) σ H (IsI T H) :=
 Ek aV fun vs H1 x dx s1 e hx hd n Q q=>by
  subst e
  refine⟨x,dx,rfl,aX,fun H' l k l0 hl e=>q H' (Bm hx hd k) ⟨x,dx,l,rfl,s1.free hx,s1.free (Ym l0),e,hl⟩⟩
theorem Xj{t:TA}{g:TG}{tb:TS}{lo hi:Int}{n:Nat}(ha:Bs t σ H [.int lo,.int hi])(hb:-(2 ^ 62)≤lo∧lo<2 ^ 62∧-(2 ^ 62)≤hi∧hi<2 ^ 62)(hn:(hi - lo).toNat=n)
  (k:∀H1,aY H H1→∃Pv:Nat→St→Hp→Prop,Pv 0 σ H1∧(∀i σ' H',i<n→Pv i σ' H'→g (.int (lo+i)) σ' H' fun σ2 H2=>tb {D with nx:=Pv (i+1),ct:=Pv (i+1),bk:=D.nx} σ2 H2)∧∀σ' H',Pv n σ' H'→D.nx σ' H'):aa2 (acq t) g tb D σ H :=
 EvA.use ha fun vs H1 s1 e=>by
  subst e
  subst hn
  obtain⟨Pv,k0,k1,k2⟩:=k H1 s1
  exact⟨lo,hi,rfl,hb,X4 Pv k0 k1 k2⟩
def ab8(T:Txt K mg):Sp:=fun vs H Q _=>∃X b dx fs,∃c k a:Nat,vs=[.ref b,.int c,.int k,.int a]∧H b=some (.ins T.dR dx fs)∧(fs=[]∨∃v:BV,fs=v.fs)∧¬X b∧(∀z,X z→H z≠none)∧Jf T (hid X H) ∧
 ∀H' A',Kp b H H'→A'.b=b→RX T X H' A' (Vbbhaj.newHouse c k a)→Q .non H'
theorem zT(T:Txt K mg):bD P w K mg base CX0 3 T.iJ.f T.iJ.fd ["self","cap","k","a"] (ab8 T):=by
 refine T.iJ.F.ok vd (fun vs H Q E ⟨_,_,_,_,_,_,_,e,_⟩=>by rw[e];rfl) fun cdv A outer s H vs Q E hr hsp=>?_
 have hu:=d9 hr
 refine⟨_,(ak (bG (pv 0) (pv 1) rfl)
   (ak (bG (pv 0) (pv 2) rfl)
   (ak (bG (pv 0) (pv 3) rfl)
   (ak (bG (pv 0) aH rfl)
   (ak (bG (pv 0) E_ rfl)
   (ak (bG (pv 0) aH rfl)
   (ak (bG (pv 0) aH rfl)
   (ak (bG (pv 0) E_ rfl)
   (ak (bG (pv 0) E_ rfl)
   (ak (tU PassesOwn.never rfl (N8 rfl T.yH (aj aH (aj (jw z9 (bz T.uh rfl) aH) aq))) (bL (i:=4) vd.nd rfl (Or.inl rfl)) (ak (Bk (by exact hu) (aD (K:=K) (pv 0) rfl) (pv 4) aH rfl)
   (az (Bk (by exact hu) (aD (K:=K) (pv 0) rfl) (pv 4) lN rfl))))
   (ak (bG (pv 0) E_ rfl)
   (az (tU PassesOwn.never rfl (N8 rfl T.yH (aj aH (aj (jw z9 (bz T.lZ rfl) aH) aq))) (bL (i:=5) vd.nd rfl (Or.inl rfl)) (az (Bk (by exact hu) (aD (K:=K) (pv 0) rfl) (pv 5) (adt T.zE (Eu T) T.dH.b (by exact hr.mono (by decide)) rfl) rfl))))))))))))))),?_⟩
 obtain⟨X,b,dx,fs,c,k,a,rfl,e0,hfs,nx,hX,htab,kk⟩:=hsp
 have len0:fs.length≤10:=by
  rcases hfs with rfl|⟨v,rfl⟩
  ·exact Nat.zero_le _
  ·exact Nat.le_refl _
 have l1:=rT "cap" (.int c) fs
 refine aN (bT (aa rfl) (aa rfl) e0 T.bN T.vJ (by omega) fun H1 k1 e1=>?_)
 (try dsimp only)
 generalize hf1:bK "cap" (.int c) fs=f1 at e1 l1
 have l2:=rT "k" (.int k) f1
 refine aN (bT (aa rfl) (aa rfl) e1 T.bN T.Bj (by omega) fun H2 k2 e2=>?_)
 (try dsimp only)
 generalize hf2:bK "k" (.int k) f1=f2 at e2 l2
 have l3:=rT "a" (.int a) f2
 refine aN (bT (aa rfl) (aa rfl) e2 T.bN T.uD (by omega) fun H3 k3 e3=>?_)
 (try dsimp only)
 generalize hf3:bK "a" (.int a) f2=f3 at e3 l3
 have l4:=rT "time" (.int 0) f3
 refine aN (bT aJ (aa rfl) e3 T.bN T.pM (by omega) fun H4 k4 e4=>?_)
 (try dsimp only)
 generalize hf4:bK "time" (.int 0) f3=f4 at e4 l4
 have kA4:Kp b H H4:=k1.trans (k2.trans (k3.trans k4))
 refine aN (nZ Ej (aa rfl) e4 T.bN T.ur (by omega) ?_)
 rintro y H5 H6 s5 ⟨dj,rfl,nj,hj5⟩ k6 e6
 (try dsimp only)
 have l5:=rT "jobs" (.ref dj) f4
 generalize hf5:bK "jobs" (.ref dj) f4=f5 at e6 l5
 have njH:H dj=none:=kA4.free e0 nj e4
 have gj6:H6 dj=some (.dK []):=k6 _ _ hj5 (cP (s5 _ _ e4) hj5)
 have kA6:Kp b H H6:=kA4.trans ((s5.kp b).trans k6)
 refine aN (bT aJ (aa rfl) e6 T.bN T.gq (by omega) fun H7 k7 e7=>?_)
 (try dsimp only)
 have l6:=rT "last_number" (.int 0) f5
 generalize hf6:bK "last_number" (.int 0) f5=f6 at e7 l6
 have gj7:=k7 _ _ gj6 (cP e6 gj6)
 refine aN (bT aJ (aa rfl) e7 T.bN T.fc (by omega) fun H8 k8 e8=>?_)
 (try dsimp only)
 have l7:=rT "last_due_turn" (.int 0) f6
 generalize hf7:bK "last_due_turn" (.int 0) f6=f7 at e8 l7
 have gj8:=k8 _ _ gj7 (cP e7 gj7)
 have kA8:Kp b H H8:=kA6.trans (k7.trans k8)
 refine aN (nZ Ej (aa rfl) e8 T.bN T.lz (by omega) ?_)
 rintro y H9 H10 s9 ⟨dl,rfl,nl,hl9⟩ k10 e10
 (try dsimp only)
 have l8:=rT "limits" (.ref dl) f7
 generalize hf8:bK "limits" (.ref dl) f7=f8 at e10 l8
 have nlH:H dl=none:=kA8.free e0 nl e8
 have gl10:H10 dl=some (.dK []):=k10 _ _ hl9 (cP (s9 _ _ e8) hl9)
 have gj10:=k10 _ _ (s9 _ _ gj8) (cP (s9 _ _ e8) (s9 _ _ gj8))
 have njl:dj≠dl:=fun z=>by rw[z,nl]at gj8;cases gj8
 have kA10:Kp b H H10:=kA8.trans ((s9.kp b).trans k10)
 refine aN (nZ Ej (aa rfl) e10 T.bN T.lu (by omega) ?_)
 rintro y H11 G s11 ⟨dc,rfl,nc,hc11⟩ k12 gb
 (try dsimp only)
 have l9:=rT "closed" (.ref dc) f8
 have lk8:f8.lookup ("limits" : Str)=some (.ref dl):=by rw[← hf8,pG,if_pos rfl]
 have lk9:(bK "closed" (.ref dc) f8).lookup ("limits" : Str)=some (.ref dl):=by rw[pG,if_neg (by decide +kernel),lk8]
 have lk9c:(bK "closed" (.ref dc) f8).lookup ("closed" : Str)=some (.ref dc):=by rw[pG,if_pos rfl]
 generalize hf9:bK "closed" (.ref dc) f8=f9 at gb l9 lk9 lk9c
 have ncH:H dc=none:=kA10.free e0 nc e10
 have gc:G dc=some (.dK []):=k12 _ _ hc11 (cP (s11 _ _ e10) hc11)
 have gl:G dl=some (.dK []):=k12 _ _ (s11 _ _ gl10) (cP (s11 _ _ e10) (s11 _ _ gl10))
 have gj:G dj=some (.dK []):=k12 _ _ (s11 _ _ gj10) (cP (s11 _ _ e10) (s11 _ _ gj10))
 have nlc:dl≠dc:=fun z=>by rw[z,nc]at gl10;cases gl10
 have njc:dj≠dc:=fun z=>by rw[z,nc]at gj10;cases gj10
 have kG:Kp b H G:=kA10.trans ((s11.kp b).trans k12)
 refine aN (Xj (lo:=1) (hi:=37) (n:=36) (aB aJ (aB (eY aJ aJ) aV)) ⟨by decide,by decide,by decide,by decide⟩ rfl fun Gr sr=>⟨fun i σ' H'=>(∃o4 o5,σ'=[some (.ref b),some (.int c),some (.int k),some (.int a),o4,o5])∧(∀z o,G z=some o→z≠dl→z≠dc→H' z=some o)∧H' dl=some (.dK (gm (fun c:Vbbhaj.Class=>V.int c.limit) 1 (List.replicate i {})))∧H' dc=some (.dK (gm (fun c:Vbbhaj.Class=>V.bl c.closed) 1 (List.replicate i {}))),?_,?_,?_⟩)
 ·exact⟨⟨_,_,rfl⟩,fun z o e _ _=>sr _ _ e,sr _ _ gl,sr _ _ gc⟩
 ·rintro i σ' H' hi ⟨⟨o4,o5,rfl⟩,kp,hl,hc⟩
  have hb':H' b=some (.ins T.dR dx f9):=kp _ _ gb (cB gb gl (by intro z;cases z)) (cB gb gc (by intro z;cases z))
  have ek:(1:Int)+i=((1+(List.replicate i ({}:Vbbhaj.Class)).length:Nat):Int):=by rw[List.length_replicate];omega
  show nH _ _ _ _ _
  refine aN (Q3 aJ (bZ (aa rfl) hb' T.bN T.lz lk9) (aa rfl) hl (by rw[xP,List.length_replicate];exact iw (by omega)) fun H5 k5 e5=>?_)
  (try dsimp only)
  have hb5:=k5 _ _ hb' (cB hb' hl (by intro z;cases z))
  have hc5:=k5 _ _ hc nlc.symm
  refine Q3 aJ (bZ (aa rfl) hb5 T.bN T.lu lk9c) (aa rfl) hc5 (by rw[xP,List.length_replicate];exact iw (by omega)) fun H6 k6 e6=>?_
  (try dsimp only)
  refine⟨⟨_,_,rfl⟩,fun z o e h1 h2=>k6 _ _ (k5 _ _ (kp _ _ e h1 h2) h1) h2,?_,?_⟩
  ·have e7:=k6 _ _ e5 nlc
   rw[List.replicate_succ',← Lr,← ek]
   exact e7
  ·rw[List.replicate_succ',← Lr,← ek]
   exact e6
 rintro σ' G1 ⟨⟨o4,o5,rfl⟩,kp1,hl1,hc1⟩
 (try dsimp only)
 have gb1:G1 b=some (.ins T.dR dx f9):=kp1 _ _ gb (cB gb gl (by intro z;cases z)) (cB gb gc (by intro z;cases z))
 have gj1:G1 dj=some (.dK []):=kp1 _ _ gj njl njc
 have kG1:Kp b H G1:=fun z o e n=>kp1 _ _ (kG _ _ e n) (fun q=>by rw[q,nlH]at e;cases e) fun q=>by rw[q,ncH]at e;cases e
 refine aN (nZ Ej (aa rfl) gb1 T.bN T.gO (by omega) ?_)
 rintro y G2 G3 s2' ⟨di,rfl,ni,hi2⟩ k3' gb3
 (try dsimp only)
 have lk10:(bK "initiators" (.ref di) f9).lookup ("initiators" : Str)=some (.ref di):=by rw[pG,if_pos rfl]
 have hbv:bK "initiators" (.ref di) f9=(BV.mk c k a 0 dj 0 0 dl dc di).fs:=by
  rw[← hf9,← hf8,← hf7,← hf6,← hf5,← hf4,← hf3,← hf2,← hf1]
  exact YC hfs _ _ _ _ _ _ _ _ _ _
 have niH:H di=none:=kG1.free e0 ni gb1
 have gi3:G3 di=some (.dK []):=k3' _ _ hi2 (cP (s2' _ _ gb1) hi2)
 have toG3:∀{z kvs},G1 z=some (.dK kvs)→G3 z=some (.dK kvs):=fun e=>k3' _ _ (s2' _ _ e) (cP (s2' _ _ gb1) (s2' _ _ e))
 have gj3:=toG3 gj1
 have gl3:=toG3 hl1
 have gc3:=toG3 hc1
 have nij:di≠dj:=fun z=>by rw[← z,ni]at gj1;cases gj1
 have nil_:di≠dl:=fun z=>by rw[← z,ni]at hl1;cases hl1
 have nic:di≠dc:=fun z=>by rw[← z,ni]at hc1;cases hc1
 have kG3:Kp b H G3:=kG1.trans ((s2'.kp b).trans k3')
 refine Xj (lo:=1) (hi:=17) (n:=16) (aB aJ (aB (eY aJ aJ) aV)) ⟨by decide,by decide,by decide,by decide⟩ rfl fun Gr2 sr2=>⟨fun i σ' H'=>(∃o4 o5,σ'=[some (.ref b),some (.int c),some (.int k),some (.int a),o4,o5])∧(∀z o,G3 z=some o→z≠di→H' z=some o)∧∃I:List (Addr×Vbbhaj.Init),I.length=i∧(∀p∈I,p.2={})∧H' di=some (.dK (gm (fun p:Addr×Vbbhaj.Init=>V.ref p.1) 1 I))∧(I.map (·.1)).Nodup ∧
  ∀p∈I,G3 p.1=none∧∃dxi l,H' p.1=some (.ins T.bV dxi (IV.mk false l false 0).fs)∧G3 l=none∧H' l=some (.lst []),?_,?_,?_⟩
 ·exact⟨⟨_,_,rfl⟩,fun z o e _=>sr2 _ _ e,[],rfl,by simp,sr2 _ _ gi3,List.nodup_nil,by simp⟩
 ·rintro i σ' H' hi ⟨⟨o4,o5,rfl⟩,kp,I,hIl,hI0,hdi,hnd,hall⟩
  have hb':H' b=some (.ins T.dR dx (bK "initiators" (.ref di) f9)):=kp _ _ gb3 (cB gb3 gi3 (by intro z;cases z))
  have ek:(1:Int)+i=((1+I.length:Nat):Int):=by rw[hIl];omega
  have mono:Q_ (IsI T H'):=fun v H1 H2 s ⟨x,dxi,l,a1,a2,a3,a4,a5⟩=>⟨x,dxi,l,a1,a2,a3,s _ _ a4,s _ _ a5⟩
  have fr:∀{z},H' z=none→G3 z=none:=fun{z} e=>by
   cases q:G3 z with
   |none=>rfl
   |some o =>
    by_cases h:z=di
    ·rw[h,hdi]at e;cases e
    ·rw[kp _ _ q h]at e;cases e
  refine Xe abw mono (bZ (aa rfl) hb' T.bN T.gO lk10) (aa rfl) hdi (by rw[xP,hIl];exact iw (by omega)) ?_
  rintro y H5 H6 s5 ⟨x,dxi,l,rfl,nx5,nl5,hx5,hl5⟩ k6 e6
  (try dsimp only)
  have hdi5:=s5 _ _ hdi
  refine⟨⟨_,_,rfl⟩,fun z o e h1=>k6 _ _ (s5 _ _ (kp _ _ e h1)) h1,I++[(x,({}:Vbbhaj.Init))],by rw[List.length_append,hIl];rfl,?_,?_,?_,?_⟩
  ·intro p hp
   rcases List.mem_append.mp hp with hp|hp
   ·exact hI0 p hp
   ·rw[List.mem_singleton.mp hp]
  ·rw[e6,← Lr,← ek]
  ·rw[List.map_append,List.nodup_append]
   refine⟨hnd,by simp,fun z hz z2 hz2 q=>?_⟩
   have:z2=x:=by simpa using hz2
   obtain⟨p,hp,ep⟩:=List.mem_map.mp hz
   obtain⟨_,_,_,hpi,_⟩:=hall p hp
   rw[ep,q,this,nx5]at hpi
   cases hpi
  ·intro p hp
   rcases List.mem_append.mp hp with hp|hp
   ·obtain⟨g1,d2,l2,a1,a2,a3⟩:=hall p hp
    exact⟨g1,d2,l2,k6 _ _ (s5 _ _ a1) (cB (s5 _ _ a1) hdi5 (by intro z;cases z)),a2,k6 _ _ (s5 _ _ a3) (cB (s5 _ _ a3) hdi5 (by intro z;cases z))⟩
   ·rw[List.mem_singleton.mp hp]
    exact⟨fr nx5,dxi,l,k6 _ _ hx5 (cB hx5 hdi5 (by intro z;cases z)),fr nl5,k6 _ _ hl5 (cB hl5 hdi5 (by intro z;cases z))⟩
 rintro σ' H' ⟨⟨o4,o5,rfl⟩,kp,I,hIl,hI0,hdi,hnd,hall⟩
 have kH:Kp b H H':=fun z o e n=>kp _ _ (kG3 _ _ e n) fun q=>by rw[q,niH]at e;cases e
 have nX:∀{z},H z=none→¬X z:=fun e q=>hX _ q e
 have fr3:∀{z},G3 z=none→H z=none:=fun e=>kG3.free e0 e gb3
 have hb':H' b=some (.ins T.dR dx (bK "initiators" (.ref di) f9)):=kp _ _ gb3 (cB gb3 gi3 (by intro z;cases z))
 rw[hbv]at hb'
 refine kk H' ⟨b,dj,dl,dc,di,[],I⟩ kH rfl ⟨⟨⟨dx,?_⟩,?_,?_,?_,?_,rfl,?_,by simp,?_,List.nodup_nil,hnd,⟨nlc,njl,njc,nil_,nic,nij.symm⟩,List.Pairwise.nil,Nat.zero_le _,?_⟩,fun z hz e=>?_⟩
 ·rw[b_ nx,hb'];rfl
 ·rw[b_ (nX njH)];exact kp _ _ gj3 nij.symm
 ·rw[b_ (nX nlH)];exact kp _ _ gl3 nil_.symm
 ·rw[b_ (nX ncH)];exact kp _ _ gc3 nic.symm
 ·rw[b_ (nX niH)];exact hdi
 ·show I.map (·.2)=List.replicate 16 {}
  refine List.eq_replicate_iff.mpr ⟨by rw[List.length_map,hIl],fun x hx=>?_⟩
  obtain⟨p,hp,ep⟩:=List.mem_map.mp hx
  rw[← ep]
  exact hI0 p hp
 ·intro p hp
  obtain⟨g1,d2,l2,a1,a2,a3⟩:=hall p hp
  rw[hI0 p hp]
  exact⟨d2,l2,by rw[b_ (nX (fr3 g1))];exact a1,by rw[b_ (nX (fr3 a2))];exact a3⟩
 ·exact htab.kp kH.hid (.inl ⟨_,_,_,by rw[b_ nx];exact e0⟩)
 ·cases q:H z with
  |none=>exact hX z hz q
  |some o=>rw[kH _ _ q fun w=>nx (w▸hz)]at e;cases e
def Oe(T:Txt K mg):Sp:=fun vs H Q _=>∃X b dx,∃c k a:Nat,vs=[.ref b,.int c,.int k,.int a]∧H b=some (.ins T.dR dx [])∧¬X b∧(∀z,X z→H z≠none)∧Jf T (hid X H) ∧
 ∀H' A',Kp b H H'→A'.b=b→RX T X H' A' (Vbbhaj.newHouse c k a)→Q .non H'
theorem Hg{C:Addr}{m:Str}{sp:Sp}{u:TA}{dx:Addr}{fs:List (Str×V)}{vs:List V}{Q:VK}(ha:Ev ta σ H (.ref a))(e:H a=some (.ins C dx fs))(l:fs.lookup m=none)(hu:Bs u σ H vs)(k:∀H',aY H H'→sp (.ref a::vs) H' Q E0):Om C m sp [] E0 ta u σ H Q :=
 Ev.use ha fun H1 s1=>⟨a,dx,fs,rfl,s1 _ _ e,l,hu H1 s1 _ fun us H2 s2 e2=>by
  rw[e2,List.append_nil]
  exact k H2 (s1.trans s2)⟩
theorem My(T:Txt K mg):bD P w K mg base CX0 4 T.ir.f T.ir.fd ["self","cap","k","a"] (Oe T):=by
 refine T.ir.F.ok M4 (fun vs H Q E ⟨_,_,_,_,_,_,e,_⟩=>by rw[e];rfl) fun cdv A outer s H vs Q E hr hsp=>⟨_,(az (iT (acv (pv 0) T.bN T.iJ (zT T) (by exact hr.mono (by decide)) (aj (pv 1) (aj (pv 2) (aj (pv 3) aq)))))),?_⟩
 obtain⟨X,b,dx,c,k,a,rfl,e0,nx,hX,ht,kk⟩:=hsp
 refine Hg (aa rfl) e0 rfl (aB (aa rfl) (aB (aa rfl) (aB (aa rfl) aV))) fun H1 s1=>?_
 refine⟨X,b,dx,[],c,k,a,rfl,s1 _ _ e0,.inl rfl,nx,fun z hz e=>hX z hz (s1.free e),ht.up (Eo s1),fun H' A' k' e' r'=>kk H' A' ((s1.kp b).trans k') e' r'⟩
theorem aak(T:Txt K mg):bD P w K mg base CX0 4 T.Ay.f T.Ay.fd ["board","cap","k","a"] (spC T (abr .begin)):=by
 refine T.Ay.F.ok aaO (fun vs H Q E ⟨_,_,_,_,_,e,⟨_,_,_,e2,_⟩,_⟩=>by rw[e,e2];rfl) fun cdv A outer s H vs Q E hr hsp=>?_
 have hu:=d9 hr
 refine⟨_,(ak (a_ (PW.pt (HF (cD (bJ (aK T.w6 (Yv T) (by exact hr.mono (by decide)) rfl (aj (pv 1) aq)))) (HF (cD (bJ (aK T.Ge (abP T) (by exact hr.mono (by decide)) rfl (aj (pv 2) aq)))) (GC (cD (bJ (aK T.Gd (abO T) (by exact hr.mono (by decide)) rfl (aj (pv 3) aq)))))))) (az (aC (bc (aj (bz T.bH rfl) aq)))) aL)
   (ak (iT (acv (pv 0) T.bN T.iJ (zT T) (by exact hr.mono (by decide)) (aj (pv 1) (aj (pv 2) (aj (pv 3) aq)))))
   (az (aC (bc (aj aH aq)))))),?_⟩
 obtain⟨X,A,s,_,rest,rfl,⟨c,k,a,rfl,rfl⟩,hx,iv,d⟩:=hsp
 refine cU (Ht (cC (fB (iY (aa rfl)))) fun _=>Ht (cC (fB (iY (aa rfl)))) fun _=>cC (fB (iY (aa rfl)))) (fun q H1 s1=>?_) fun q H1 s1=>?_
 ·refine cI (aZ aJ) fun v H3 s3 l=>d.no (n:=-1) hx (if_pos ?_) (s1.trans s3) l
  have q:(!Vbbhaj.inside c 1 500||(!Vbbhaj.inside k 1 1000||!Vbbhaj.inside a 1 1000000))=true:=q
  simpa using q
 have q:(!Vbbhaj.inside c 1 500||(!Vbbhaj.inside k 1 1000||!Vbbhaj.inside a 1 1000000))=false:=q
 simp only[Bool.or_eq_false_iff,Bool.not_eq_false']at q
 obtain⟨qc,qk,qa⟩:=q
 have e0:Vbbhaj.step s (.begin c k a)=Vbbhaj.yes (Vbbhaj.newHouse c.toNat k.toNat a.toNat) 0:=if_neg (by rw[qc,qk,qa];simp)
 rw[e0]at d
 have hx1:=hx.up s1
 obtain⟨dx,eb⟩:=hx1.r.brd
 obtain⟨nxb,eb'⟩:=bM eb
 show nH _ _ _ _ _
 refine aN (Hg (aa rfl) eb' (BV.aai _) (aB (aa rfl) (aB (aa rfl) (aB (aa rfl) aV))) fun H2 s2=>?_)
 refine⟨X,A.b,dx,_,c.toNat,k.toNat,a.toNat,?_,s2 _ _ eb',.inr ⟨_,rfl⟩,nxb,fun z hz e=>hx1.x z hz (s2.free e),hx1.r.tabs.up (Eo s2),fun H' A' k' e' r'=>?_⟩
 ·rw[yE (lo:=1) qc (by decide),yE (lo:=1) qk (by decide),yE (lo:=1) qa (by decide)]
 (try dsimp only)
 refine cI (aZ aJ) fun v H4 s4 l=>d.go (r'.up s4) e' ?_ l
 exact(s1.trans s2).fix.trans ((k'.fix (s2 _ _ eb') (Iz _ _ _)).trans s4.fix)
end
end Jq
end
section
set_option Elab.async false
set_option linter.all false
set_option maxRecDepth 100000
set_option maxHeartbeats 1000000
namespace Jq
open PySem PySem.Spec PyProof.Rows L2
theorem VF{X:Cx}{x:Str}{ps:List Str}{k:Nat}{sp:Sp}{p pos:Pos}{e:Expr}{es:List Expr}{t:TA}{C f:Addr}(D:T9 X.K X.mg C x f){fd:FuncData}(F:bD X.prog X.w X.K X.mg X.base CX0 k f fd ps sp)(b:Binds X.K fd ps [])(hr:jx (k+1) X.A)(hg:Gl X x)(ha:PA X (e::es) t)(hdb:(x==("__debug__" : Str))=false:=by decide)
  (he:starEach (e::es) X.env=(false,eval e X.env)::starEach es X.env:=by rfl) (hpl:(backTo pos (starEach es X.env)).any (·.1)=false:=by rfl):PE X (.Call (.Name x p) (e::es) [] pos) (Ol C sp [] E0 t) :=
 abW D.M F hr hg D.g b .nil SJ ha hdb he hpl
def okB(xs:List Int):Prop:=∀x∈xs,0≤x∧x<256
theorem Xz{xs:List Int}(h:okB xs):(bytesOf xs).map (fun c=>(c.toNat:Int))=xs:=by
 unfold bytesOf
 rw[List.map_map]
 conv=>rhs;rw[← List.map_id xs]
 refine List.map_congr_left fun x hx=>?_
 have hx:=h x hx
 show((UInt8.ofNat x.toNat).toNat:Int)=x
 rw[UInt8.toNat_ofNat']
 omega
theorem Yc{xs:List Int}(h:okB xs):Vbbhaj.isName (bytesOf xs)=nm xs:=by
 cases xs with
 |nil=>rfl
 |cons x r =>
  have hx:=h x List.mem_cons_self
  have tn:∀z:Int,0≤z→z<256→(UInt8.ofNat z.toNat).toNat=z.toNat:=fun z h1 h2=>by rw[UInt8.toNat_ofNat'];omega
  have el:∀z:Int,0≤z→z<256→(decide (65≤(UInt8.ofNat z.toNat).toNat∧(UInt8.ofNat z.toNat).toNat≤90))=Vbbhaj.inside z 65 90:=fun z h1 h2=>by
   unfold Vbbhaj.inside
   rw[tn z h1 h2,Bool.eq_iff_iff,decide_eq_true_eq,decide_eq_true_eq]
   omega
  have ed:∀z:Int,0≤z→z<256→(decide (48≤(UInt8.ofNat z.toNat).toNat∧(UInt8.ofNat z.toNat).toNat≤57))=Vbbhaj.inside z 48 57:=fun z h1 h2=>by
   unfold Vbbhaj.inside
   rw[tn z h1 h2,Bool.eq_iff_iff,decide_eq_true_eq,decide_eq_true_eq]
   omega
  have e1:((bytesOf r).all fun d=>decide (65≤d.toNat∧d.toNat≤90)||decide (48≤d.toNat∧d.toNat≤57))=r.all fun c=>Vbbhaj.inside c 65 90||Vbbhaj.inside c 48 57:=by
   have hr:∀y∈r,0≤y∧y<256:=fun y hy=>h y (List.mem_cons_of_mem _ hy)
   clear h hx
   induction r with
   |nil=>rfl
   |cons y r ih =>
    have hy:=hr y List.mem_cons_self
    show((decide _||decide _)&&(bytesOf r).all _)=((_||_)&&r.all _)
    rw[ih fun z hz=>hr z (List.mem_cons_of_mem _ hz),el y hy.1 hy.2,ed y hy.1 hy.2]
  show(decide ((bytesOf (x::r)).length≤8)&&(decide (65≤(UInt8.ofNat x.toNat).toNat∧(UInt8.ofNat x.toNat).toNat≤90)&&(bytesOf r).all fun d=>decide (65≤d.toNat∧d.toNat≤90)||decide (48≤d.toNat∧d.toNat≤57)))=_
  rw[el x hx.1 hx.2,e1]
  unfold nm
  have e2:(bytesOf (x::r)).length=(x::r).length:=by unfold bytesOf;rw[List.length_map]
  rw[e2,List.headD_cons,List.all_cons]
  have e3:(decide ((1:Int)≤((x::r).length:Nat))&&decide (((x::r).length:Int)≤8))=decide ((x::r).length≤8):=by
   rw[Bool.eq_iff_iff,Bool.and_eq_true,decide_eq_true_eq,decide_eq_true_eq,decide_eq_true_eq,List.length_cons]
   omega
  rw[e3]
  cases Vbbhaj.inside x 65 90<;>simp
def Io(ts:List Int):List Vbbhaj.Test:=(trips ts).map fun t=>⟨t.1.toNat,t.2.1.toNat,t.2.2.toNat⟩
theorem aa6{l:List (Int×Int×Int)}(h:∀t∈l,jP t=true):(l.map fun t=>(⟨t.1.toNat,t.2.1.toNat,t.2.2.toNat⟩:Vbbhaj.Test)).map tri=l:=by
 rw[List.map_map]
 conv=>rhs;rw[← List.map_id l]
 refine List.map_congr_left fun t ht=>?_
 have h:=h t ht
 unfold jP at h
 simp only[Bool.and_eq_true]at h
 have h1:=bI.mp h.1
 have h2:=bI.mp h.2.1
 have h3:=bI.mp h.2.2
 show((t.1.toNat:Int),(t.2.1.toNat:Int),(t.2.2.toNat:Int))=(t.1,t.2.1,t.2.2)
 rw[show(t.1.toNat:Int)=t.1 by omega,show(t.2.1.toNat:Int)=t.2.1 by omega,show(t.2.2.toNat:Int)=t.2.2 by omega]
def tR(s:Vbbhaj.State)(c p h:Int)(xs ts:List Int):Vbbhaj.Job:={num:=s.next,name:=bytesOf xs,cls:=c.toNat,prio:=p.toNat,held:=h==1,tests:=opened (gW s.jobs) (Io ts)}
theorem any_false{α:Type}{l:List α}{f:α→Bool}(h:l.any f=false):∀x∈l,f x=false:=fun x hx=>by
 have:=List.any_eq_false.mp h x hx
 simpa using this
theorem Hz{α:Type}(l:List α)(f:α→Bool):(l.any fun x=>!f x)=!l.all f:=by rw[List.not_all_eq_any_not]
theorem YX{s:Vbbhaj.State}(g:Good s){c p h:Int}{xs ts:List Int}(hb:okB xs):Vbbhaj.doSubmit s c p h (bytesOf xs) ts=if m_ s c p h xs ts=0 then Vbbhaj.yes {s with next:=s.next+1,jobs:=s.jobs++[tR s c p h xs ts]} s.next else (s,{num:=m_ s c p h xs ts}):=by
 unfold Vbbhaj.doSubmit m_
 by_cases h1:Vbbhaj.isClass c=false∨Vbbhaj.inside p 0 15=false∨Vbbhaj.inside h 0 1=false
 ·rw[if_pos h1]
  have h1':(!Vbbhaj.isClass c||(!Vbbhaj.inside p 0 15||!Vbbhaj.inside h 0 1))=true:=by simpa using h1
  rw[if_pos h1',if_neg (by decide)]
  rfl
 have h1':¬(!Vbbhaj.isClass c||(!Vbbhaj.inside p 0 15||!Vbbhaj.inside h 0 1))=true:=by simpa using h1
 rw[if_neg h1,if_neg h1',Yc hb]
 by_cases h2:nm xs=false
 ·rw[if_pos h2,if_pos (show(!nm xs||!ql ts)=true by rw[h2];rfl),if_neg (by decide)]
  rfl
 rw[if_neg h2]
 have h2':nm xs=true:=by simpa using h2
 by_cases h3:ts.length % 3=0
 case neg =>
  rw[Fl h3]
  have:ql ts=false:=by
   unfold ql
   rw[show decide ((ts.length:Int) % 3=0)=false by rw[decide_eq_false_iff_not];omega]
   rfl
  show Vbbhaj.no s 2=_
  rw[if_pos (show(!nm xs||!ql ts)=true by rw[this];simp),if_neg (by decide)]
  rfl
 have e0:Vbbhaj.triples ts=some (trips ts):=Fo h3
 rw[e0]
 show(if 8<(trips ts).length then _ else _)=_
 have hl:(trips ts).length=ts.length / 3:=by unfold trips;rw[List.length_map,List.length_range]
 by_cases h4:8<(trips ts).length
 ·rw[if_pos h4]
  have:ql ts=false:=by
   unfold ql
   rw[show decide ((ts.length:Int) / 3≤8)=false by rw[decide_eq_false_iff_not];omega,Bool.and_false]
  rw[if_pos (show(!nm xs||!ql ts)=true by rw[this];simp),if_neg (by decide)]
  rfl
 rw[if_neg h4]
 have h4':ql ts=true:=by
  unfold ql
  rw[Bool.and_eq_true,decide_eq_true_eq,decide_eq_true_eq]
  omega
 rw[if_neg (show¬(!nm xs||!ql ts)=true by rw[h2',h4'];simp)]
 unfold lO
 rw[Hz (trips ts) jP,Hz (trips ts) (vB s.jobs)]
 have e5:((trips ts).all fun t=>Vbbhaj.isNum t.1&&(Vbbhaj.inside t.2.1 0 3&&Vbbhaj.inside t.2.2 0 4095))=(trips ts).all jP:=rfl
 rw[e5]
 cases h5:(trips ts).all jP with
 |false=>rfl
 |true =>
 rw[if_neg (by decide)]
 have e6:((trips ts).all fun t=>(Vbbhaj.jobAt s t.1).isSome)=(trips ts).all (vB s.jobs):=rfl
 rw[e6]
 cases h6:(trips ts).all (vB s.jobs)with
 |false=>rfl
 |true =>
 rw[if_neg (by decide)]
 have ok5:∀t∈trips ts,jP t=true:=List.all_eq_true.mp h5
 have et:(Io ts).map tri=trips ts:=aa6 ok5
 have hk:∀t∈Io ts,t.kind≤3:=fun t ht=>by
  obtain⟨u,hu,rfl⟩:=List.mem_map.mp ht
  have h:=ok5 u hu
  unfold jP at h
  simp only[Bool.and_eq_true]at h
  have h2:=bI.mp h.2.1
  show u.2.1.toNat≤3
  omega
 have hm:∀t∈Io ts,∃k∈s.jobs,k.num=t.job∧Vbbhaj.endingIn (gW s.jobs) t.job=endOf k:=fun t ht=>by
  obtain⟨u,hu,rfl⟩:=List.mem_map.mp ht
  have h:=ok5 u hu
  unfold jP at h
  simp only[Bool.and_eq_true]at h
  have h1:=bI.mp h.1
  obtain⟨k,ek⟩:=Option.isSome_iff_exists.mp (show(t7 s.jobs u.1).isSome=true from List.all_eq_true.mp h6 u hu)
  obtain⟨mk,nk⟩:=iI ek
  have e:k.num=u.1.toNat:=by omega
  exact⟨k,mk,e,by show Vbbhaj.endingIn _ u.1.toNat=_;rw[← e];exact um g.srt mk⟩
 obtain⟨af,ao⟩:=Ua g.srt hk hm
 rw[et]at af
 have e7:((trips ts).any fun t=>yK s.jobs t)=!iH (gW s.jobs) (Io ts):=af
 rw[e7]
 show(if iH (gW s.jobs) (Io ts)=false then Vbbhaj.no s 7 else if s.cap≤s.jobs.length∨Vbbhaj.LASTNUM<s.next then Vbbhaj.no s 8 else Vbbhaj.yes {s with next:=s.next+1,jobs:=s.jobs++[tR s c p h xs ts]} s.next)=_
 cases h7:iH (gW s.jobs) (Io ts)with
 |false=>rfl
 |true =>
 rw[if_neg (by decide)]
 have e8:full s=true↔(s.cap≤s.jobs.length∨Vbbhaj.LASTNUM<s.next):=by
  unfold full Vbbhaj.LASTNUM
  rw[Bool.or_eq_true,decide_eq_true_eq,decide_eq_true_eq]
  omega
 by_cases h8:s.cap≤s.jobs.length∨Vbbhaj.LASTNUM<s.next
 ·rw[if_pos h8,e8.mpr h8]
  rfl
 ·rw[if_neg h8]
  have:full s=false:=by
   cases hf:full s with
   |false=>rfl
   |true=>exact absurd (e8.mp hf) h8
  rw[this]
  rfl
section
variable {P:Program}{w:World}{K:PySem.W.Frag}{mg:Str→Option Value}{base:Heap}
variable {σ:St}{H:Hp}{ta tb tc td:TE}{a:Addr}{j:Vbbhaj.Job}{A:Ad}{s:Vbbhaj.State}{T:Txt K mg}{X:Addr→Prop}{D:Ends}
theorem Ye{L:List (Addr×Vbbhaj.Job)}{x:Addr}{j:Vbbhaj.Job}(h:∀p∈L,p.2.num<j.num):putK (qU L) (Sum.inl (j.num:Int)) (.ref x)=qU (L++[(x,j)]):=by
 rw[S6 _ (Yd fun p hp=>by have:=h p hp;omega)]
 unfold qU
 rw[List.map_append]
 rfl
theorem Rep.acG{H':Hp}{x:Addr}(h:Rep T H A s)(k:Kp A.dj H H')(e:H' A.dj=some (.dK (qU (A.L++[(x,j)]))))(hj:cT T H' x j)(hn:∀p∈A.L,p.1≠x)(hs:∀p∈A.L,p.2.num<j.num)(hf:s.jobs.length<500) :
  Rep T H' {A with L:=A.L++[(x,j)]} {s with jobs:=s.jobs++[j]}:=by
 have w:Wr H A.dj:=.inr ⟨_,h.jobs⟩
 have nd:∀{b C dx fs},H b=some (.ins C dx fs)→b≠A.dj:=fun e=>(cP e h.jobs).symm
 refine⟨?_,e,k _ _ h.lim h.dd.2.1.symm,k _ _ h.clo h.dd.2.2.1.symm,k _ _ h.ini h.dd.2.2.2.2.2.symm,?_,h.is,fun p hp=>?_,fun p hp=>?_,?_,h.ndi,h.dd,?_,?_,h.tabs.kp k w⟩
 ·obtain⟨dx,e1⟩:=h.brd
  exact⟨dx,k _ _ e1 (nd e1)⟩
 ·show(A.L++[(x,j)]).map (·.2)=_
  rw[List.map_append,h.js]
  rfl
 ·rcases List.mem_append.mp hp with hp | hp
  ·have hj:=h.job p hp
   obtain⟨dx,na,ta,e1,_⟩:=id hj
   exact hj.kp k w (nd e1)
  ·rw[List.mem_singleton.mp hp]
   exact hj
 ·have hj:=h.int p hp
  obtain⟨dx,ca,e1,_⟩:=id hj
  exact hj.kp k w (nd e1)
 ·show((A.L++[(x,j)]).map (·.1)).Nodup
  rw[List.map_append,List.nodup_append]
  refine⟨h.ndj,by simp,fun z hz z2 hz2 q=>?_⟩
  have:z2=x:=by simpa using hz2
  obtain⟨p,hp,ep⟩:=List.mem_map.mp hz
  exact hn p hp (by rw[ep,q,this])
 ·refine List.pairwise_append.mpr ⟨h.srt,List.pairwise_singleton _ _,fun y hy z hz=>?_⟩
  rw[List.mem_singleton.mp hz]
  rw[← h.js]at hy
  obtain⟨p,hp,ep⟩:=List.mem_map.mp hy
  rw[← ep]
  exact hs p hp
 ·show(s.jobs++[j]).length≤500
  rw[List.length_append]
  exact hf
def dS:DT:=fun r H c=>∃x y z nl rl xs ts,r=[.int x,.int y,.int z,.ref nl,.ref rl]∧H nl=some (.lst (xs.map V.int))∧xs.length≤100000∧H rl=some (.lst (ts.map V.int))∧ts.length≤400∧okB xs∧c=.submit x y z (bytesOf xs) ts
theorem QJ{s:Vbbhaj.State}{c p h:Int}{xs ts:List Int}(q:m_ s c p h xs ts=0):Vbbhaj.isClass c=true∧Vbbhaj.inside p 0 15=true∧Vbbhaj.inside h 0 1=true∧ql ts=true∧(∀t∈trips ts,jP t=true)∧(∀t∈trips ts,vB s.jobs t=true)∧full s=false:=by
 unfold m_ at q
 split at q
 ·exact absurd q (by decide)
 rename_i h1
 split at q
 ·exact absurd q (by decide)
 rename_i h2
 have h1:(!Vbbhaj.isClass c||(!Vbbhaj.inside p 0 15||!Vbbhaj.inside h 0 1))=false:=by simpa using h1
 have h2:(!nm xs||!ql ts)=false:=by simpa using h2
 simp only[Bool.or_eq_false_iff,Bool.not_eq_false']at h1 h2
 split at q
 ·rename_i h3
  refine⟨h1.1,h1.2.1,h1.2.2,h2.2,?_⟩
  unfold lO at h3
  split at h3
  ·exact absurd h3 (by decide)
  rename_i h4
  split at h3
  ·exact absurd h3 (by decide)
  rename_i h5
  refine⟨fun t ht=>?_,fun t ht=>?_,?_⟩
  ·have:=any_false (by simpa using h4:((trips ts).any fun t=>!jP t)=false) t ht
   simpa using this
  ·have:=any_false (by simpa using h5:((trips ts).any fun t=>!vB s.jobs t)=false) t ht
   simpa using this
  ·cases hf:full s with
   |false=>rfl
   |true=>rw[hf]at q;exact absurd q (by decide)
 ·rename_i h3
  exact absurd q h3
theorem Yx(T:Txt K mg):bD P w K mg base CX0 5 T.xg.f T.xg.fd ["board","class_of","priority","held","name","row"] (spC T dS):=by
 refine T.xg.F.ok Bo (fun vs H Q E ⟨_,_,_,_,_,e,⟨_,_,_,_,_,_,_,e2,_⟩,_⟩=>by rw[e,e2];rfl) fun cdv A outer s H vs Q E hr hsp=>?_
 have hu:=d9 hr
 refine⟨_,(ak (bu (i:=6) Bo.nd rfl (Or.inl rfl) (aK T.eU (zY T) (by exact hr.mono (by decide)) rfl (aj (pv 0) (aj (pv 1) (aj (pv 2) (aj (pv 3) (aj (pv 4) (aj (pv 5) aq))))))))
   (ak (a_ (aR ju (pv 6) (bz T.aW rfl) (aQ _)) (az (aC (bc (aj (pv 6) aq)))) aL)
   (ak (bu (i:=7) Bo.nd rfl (Or.inl rfl) (aK T.dF (ud T) (by exact hr.mono (by decide)) rfl (aj (aD (K:=K) (pv 0) rfl) (aj (aK T.iM (zZ T) (by exact hr.mono (by decide)) rfl (aj (pv 5) aq)) aq))))
   (ak (bu (i:=8) Bo.nd rfl (Or.inl rfl) (jw z9 (aD (K:=K) (pv 0) rfl) aH))
   (ak (Bk (by exact hu) (aD (K:=K) (pv 0) rfl) (pv 8) (VF T.Z5 (Sv T) T.kW.b (by exact hr.mono (by decide)) rfl (aj (pv 8) (aj (mV xY rfl T.Hi Ip (aj (pv 4) aq)) (aj (pv 1) (aj (pv 2) (aj (fL dm (pv 3) aH (aQ _)) (aj (pv 7) aq))))))) rfl)
   (ak (bG (pv 0) (pv 8) rfl)
   (az (aC (bc (aj (pv 8) aq)))))))))),?_⟩
 obtain⟨X,A,s,_,rest,rfl,⟨c,p,h,nl,rl,xs,ts,rfl,hn,hnz,hrw,hrz,hb,rfl⟩,hx,iv,d⟩:=hsp
 have d:Done T X H A (Vbbhaj.doSubmit s c p h (bytesOf xs) ts) Q:=d
 rw[YX iv.g hb]at d
 have h0:=hx.rep
 refine aN (iG (v:=.int (m_ s c p h xs ts)) (nQ (G:=WQ T) (aB (aa rfl) (aB (aa rfl) (aB (aa rfl) (aB (aa rfl) (aB (aa rfl) (aB (aa rfl) aV)))))) fun H1 s1=>⟨A,s,c,p,h,nl,rl,xs,ts,rfl,h0.up s1,s1 _ _ hn,hnz,s1 _ _ hrw,hrz,rfl⟩) fun H1 s1=>?_)
 (try dsimp only)
 refine cU (aP (fM (aa rfl) aJ)) (fun q H2 s2=>?_) fun q H2 s2=>?_
 ·exact cI (aZ (aa rfl)) fun v H3 s3 l=>d.no hx (if_neg (by simpa using jr q)) (s1.trans (s2.trans s3)) l
 have q:m_ s c p h xs ts=0:=by simpa using q
 rw[if_pos q]at d
 obtain⟨qc,qp,qh,qr,qt,qe,qf⟩:=QJ q
 obtain⟨n1,n2⟩:=Xb qr
 have sx:=s1.trans s2
 have hx2:=hx.up sx
 have h2:=hx2.rep
 have sp:EvP _ ((start ["board","class_of","priority","held","name","row","refusal","tests","number"] [V.ref A.b,.int c,.int p,.int h,.ref nl,.ref rl]).set 6 (some (.int (m_ s c p h xs ts)))) H2 (fun v H'=>∃ps,ps.map (·.2)=trips ts∧Bu H' ps v∧∀p∈ps,H2 p.1=none) :=
  U3 (G:=Qi) (aB (aa (i:=5) (v:=.ref rl) rfl) aV) fun H3 s3=>⟨_,⟨rl,ts,ts.length / 3,rfl,s3 _ _ (sx _ _ hrw),n1,n2,rfl⟩,fun v H' ⟨ps,e1,e2,e3⟩=>⟨ps,e1,e2,fun p hp=>s3.free (e3 p hp)⟩⟩
 have ps_len:∀{ps:List (Addr×Int×Int×Int)},ps.map (·.2)=trips ts→ps.length≤8:=fun{ps} e=>by
  have:=congrArg List.length e
  unfold trips at this
  rw[List.length_map,List.length_map,List.length_range]at this
  omega
 have opn:∀{ps:List (Addr×Int×Int×Int)},ps.map (·.2)=trips ts→(ps.filter fun p=>xG s.jobs p.2).map (·.2)=(opened (gW s.jobs) (Io ts)).map tri:=fun{ps} e=>by
  have et:(Io ts).map tri=trips ts:=aa6 qt
  have hk:∀t∈Io ts,t.kind≤3:=fun t ht=>by
   obtain⟨u,hu,rfl⟩:=List.mem_map.mp ht
   have h:=qt u hu
   unfold jP at h
   simp only[Bool.and_eq_true]at h
   have h2:=bI.mp h.2.1
   show u.2.1.toNat≤3
   omega
  have hm:∀t∈Io ts,∃k∈s.jobs,k.num=t.job∧Vbbhaj.endingIn (gW s.jobs) t.job=endOf k:=fun t ht=>by
   obtain⟨u,hu,rfl⟩:=List.mem_map.mp ht
   have h:=qt u hu
   unfold jP at h
   simp only[Bool.and_eq_true]at h
   have h1:=bI.mp h.1
   obtain⟨k,ek⟩:=Option.isSome_iff_exists.mp (show(t7 s.jobs u.1).isSome=true from qe u hu)
   obtain⟨mk,nk⟩:=iI ek
   have e:k.num=u.1.toNat:=by omega
   exact⟨k,mk,e,by show Vbbhaj.endingIn _ u.1.toNat=_;rw[← e];exact um iv.g.srt mk⟩
  obtain⟨_,ao⟩:=Ua iv.g.srt hk hm
  rw[← ao,et,← e,List.filter_map]
  rfl
 show nH _ _ _ _ _
 have ts2:EvP (fH (ro (gTs T fun H l ps v H'=>Bu H' (ps.filter fun p=>xG l p.2) v∧∃d,v=.ref d∧H d=none)) [] E0 (bw (km K (cu 0) "jobs") (bw (fH (ro Qi) [] E0 (bw (cu 5) eV)) eV))) ((start ["board","class_of","priority","held","name","row","refusal","tests","number"] [V.ref A.b,.int c,.int p,.int h,.ref nl,.ref rl]).set 6 (some (.int (m_ s c p h xs ts)))) H2 (fun v H'=>∃qs l,v=.ref l∧qs.map (·.2)=(opened (gW s.jobs) (Io ts)).map tri∧Bu H' qs v∧H2 l=none∧∀p∈qs,H2 p.1=none) :=
  fun Hq sq Q k=>(JN (cA (aa (i:=0) rfl) h2) sp (fun v H1 H2 s1 ⟨ps,e1,e2,e3⟩=>⟨ps,e1,vY _ _ _ s1 e2,e3⟩)) Hq sq _ fun us H3 s3 ⟨v,e,ps,e1,e2,e3⟩=>by
   obtain⟨l,rfl,_⟩:=id e2
   show ro (gTs T fun H l ps v H'=>Bu H' (ps.filter fun p=>xG l p.2) v∧∃d,v=.ref d∧H d=none) (us++[]) H3 Q E0
   rw[List.append_nil]
   have h3:=h2.up (sq.trans s3)
   have hin:∀p∈ps,∃q∈A.L,(q.2.num:Int)=p.2.1:=fun p hp=>by
    have ht:p.2∈trips ts:=by rw[← e1];exact List.mem_map_of_mem (f:=(·.2)) hp
    obtain⟨j,ej⟩:=Option.isSome_iff_exists.mp (show(t7 s.jobs p.2.1).isSome=true from qe _ ht)
    rw[← h2.js]at ej
    obtain⟨a,m,en⟩:=QD ej
    exact⟨(a,j),m,en⟩
   refine⟨_,⟨A.dj,l,A.L,ps,e,h3.jobs,h3.job,h3.Mw,e2,hin,ps_len e1,rfl⟩,fun v H4 s4 ⟨r1,dd,r2,r3⟩=>?_⟩
   rw[h3.js]at r1
   exact k v H4 (s3.trans s4) ⟨_,dd,r2,opn e1,r1,(sq.trans s3).free r3,fun p hp=>e3 p (List.mem_filter.mp hp).1⟩
 refine aN (vC ts2 ?_)
 rintro v H3 s3 ⟨qs,tl,rfl,eq,htr,ntl,nqs⟩
 (try dsimp only)
 have hx3:=hx2.up s3
 have h3:=hx3.rep
 refine aN (iG (v:=.int (s.next:Nat)) ((eY (xj (aa rfl) h3) aJ).cast (by congr 1;omega)) fun H4 s4=>?_)
 (try dsimp only)
 have hx4:=hx3.up s4
 have h4:=hx4.rep
 have sx4:=sx.trans (s3.trans s4)
 have hn4:=sx4 _ _ hn
 have cN:((c.toNat:Nat):Int)=c:=yE (lo:=1) (hi:=36) qc (by decide)
 have pN:((p.toNat:Nat):Int)=p:=yE (lo:=0) (hi:=15) qp (by decide)
 have mk:EvP _ (((((start ["board","class_of","priority","held","name","row","refusal","tests","number"] [V.ref A.b,.int c,.int p,.int h,.ref nl,.ref rl]).set 6 (some (.int (m_ s c p h xs ts)))).set 7 (some (.ref tl))).set 8 (some (.int (s.next:Nat))))) H4 (fun v H'=>∃x dx na,v=.ref x∧H4 x=none∧H4 na=none∧H' x=some (.ins T.gU dx (jv (tR s c p h xs ts) na tl).fs)∧H' na=some (.lst (xs.map V.int))) :=
  Ek (C:=T.gU) (sp:=Oh T) (t:=bw (cu 8) (bw (tCB (fun xs H Q=>∃p ys,xs=[.ref p]∧(SqL K H p ys∨SqT K H p ys)∧∀l,H l=none→Q (.ref l) (upd H l (.lst ys))) (bw (cu 4) eV)) (bw (cu 1) (bw (cu 2) (bw (tOp rEq (cu 3) (tC (V.int 1))) (bw (cu 7) eV)))))) (RA:=fun vs H'=>∃na,vs=[.int (s.next:Nat),.ref na,.int c,.int p,.bl (decide (h=1)),.ref tl]∧H4 na=none∧H' na=some (.lst (xs.map V.int)))
   (fun Hq sq Q k=>Ev.use (aa rfl) fun H5 s5=>EvP.use (JT ((aa rfl).toL (s5 _ _ (sq _ _ hn4)))) fun v H6 s6 ⟨na,ev,n0,hna⟩=>EvA.use (aB (aa rfl) (aB (aa rfl) (aB (bY (aa rfl) aJ) (aB (aa rfl) aV)))) fun us H7 s7 e7=>k _ H7 (s5.trans (s6.trans s7)) ⟨na,by rw[ev,e7],(sq.trans s5).free n0,s7 _ _ hna⟩)
   fun vs H5 x dx s5 ⟨na,ev,n0,hna⟩ hx0 hd0 ne Q k=>by
    subst ev
    have hxna:na≠x:=fun z=>by rw[z,hx0]at hna;cases hna
    have hxdx:na≠dx:=fun z=>by rw[z,hd0]at hna;cases hna
    refine⟨x,dx,_,na,c,p,_,tl,rfl,aX,fun H' k' e'=>k H' (Bm hx0 hd0 k') ⟨x,dx,na,rfl,s5.free hx0,n0,?_,?_⟩⟩
    ·rw[e']
     unfold jv tR
     rw[cN,pN]
     have:(h==1)=decide (h=1):=by rw[Bool.eq_iff_iff];simp
     rw[this]
     rfl
    ·refine k' _ _ ?_ hxna
     rw[aO hxna,aO hxdx]
     exact hna
 have mono:Q_ (fun v H'=>∃x dx na,v=.ref x∧H4 x=none∧H4 na=none∧H' x=some (.ins T.gU dx (jv (tR s c p h xs ts) na tl).fs)∧H' na=some (.lst (xs.map V.int))):=fun v Ha Hb sab ⟨x,dx,na,a1,a2,a3,a4,a5⟩=>⟨x,dx,na,a1,a2,a3,sab _ _ a4,sab _ _ a5⟩
 have few4:s.jobs.length<500:=by
  unfold full at qf
  simp only[Bool.or_eq_false_iff,decide_eq_false_iff_not]at qf
  have:=iv.g.cap
  omega
 have lts:∀p∈A.L,p.2.num<s.next:=fun p hp=>(iv.g.num p.2 (xq h0 hp)).2
 refine aN (Xe mk mono (cA (aa rfl) h4) (aa rfl) h4.jobs (by unfold qU;rw[List.length_map,← List.length_map (f:=(·.2)),h4.js];exact iw (by omega)) ?_)
 rintro y H5 H6 s5 ⟨x,dx,na,rfl,nx,nna,hx5,hna5⟩ k6 e6
 (try dsimp only)
 have hx5':=hx4.up s5
 have nxd:=(bM hx5'.r.jobs).1
 have Xx:=hx4.fresh nx
 have Xna:=hx4.fresh nna
 have Xtl:=hx2.fresh ntl
 have hjd5:=hx5'.rep.jobs
 have jn:cT T (hid X H6) x (tR s c p h xs ts):=by
  refine⟨dx,na,tl,?_,?_,qs,eq,tl,rfl,?_,fun p hp=>?_⟩
  ·rw[b_ Xx];exact k6 _ _ hx5 (cB hx5 hjd5 (by intro z;cases z))
  ·show hid X H6 na=some (.lst ((bytesOf xs).map fun c=>V.int c.toNat))
   have:((bytesOf xs).map fun c=>V.int c.toNat)=xs.map V.int:=by
    conv=>rhs;rw[← Xz hb]
    rw[List.map_map]
    rfl
   rw[this,b_ Xna]
   exact k6 _ _ hna5 (cB hna5 hjd5 (by intro z;cases z))
  ·obtain⟨l',el,htl,_⟩:=htr
   cases el
   have:=s5 _ _ (s4 _ _ htl)
   rw[b_ Xtl]
   exact k6 _ _ this (cB this hjd5 (by intro z;cases z))
  ·obtain⟨l',el,_,htp⟩:=htr
   have:=s5 _ _ (s4 _ _ (htp p hp))
   rw[b_ (hx2.fresh (nqs p hp))]
   exact k6 _ _ this (cB this hjd5 (by intro z;cases z))
 have ax:∀p∈A.L,p.1≠x:=fun p hp z=>by
  obtain⟨_,_,_,e,_⟩:=h4.job p hp
  rw[z,nx]at e
  cases e
 have r6:RX T X H6 {A with L:=A.L++[(x,tR s c p h xs ts)]} {s with jobs:=s.jobs++[tR s c p h xs ts]} :=
  ⟨hx5'.r.acG k6.hid (by rw[b_ nxd,e6];congr 2;exact Ye (j:=tR s c p h xs ts) lts) jn ax lts few4,hx5'.keep k6 nxd⟩
 obtain⟨dxb,eb⟩:=r6.r.brd
 obtain⟨nxb,eb'⟩:=bM eb
 refine aN (bT (aa rfl) (aa rfl) eb' T.bN T.gq (BV.few _) fun H7 k7 e7=>?_)
 (try dsimp only)
 rw[BV.Cm]at e7
 have r7:RX T X H7 {A with L:=A.L++[(x,tR s c p h xs ts)]} {s with next:=s.next+1,jobs:=s.jobs++[tR s c p h xs ts]}:=⟨r6.r.V7 k7.hid (s':={s with next:=s.next+1,jobs:=s.jobs++[tR s c p h xs ts]}) (by
  rw[b_ nxb,e7]
  unfold bv
  rw[show((s.next+1:Nat):Int) - 1=(s.next:Int)by omega]) rfl rfl rfl,r6.keep k7 nxb⟩
 refine cI (aZ (aa rfl)) fun v H8 s8 l=>d.go (r7.up s8) rfl ?_ l
 exact sx4.fix.trans (s5.fix.trans ((k6.fix hjd5 (Wz _)).trans ((k7.fix eb' (Iz _ _ _)).trans s8.fix)))
end
end Jq
end
section
set_option Elab.async false
set_option linter.all false
set_option maxRecDepth 100000
set_option maxHeartbeats 1000000
namespace L2
open PySem PySem.Spec PyProof.Rows
structure Fw where
 qual:Str
 params:Arguments
 body:Expr
 scope:Scope
def Rv(c:Addr)(qual:Str):HO:=.ext fun h=>h.CodeRec (.ref c) qual
def lamO(d:Fw)(cl:List (Str×Addr))(q c:Addr):HO:=.ext fun h=>∃pm ctv,h.get? q=some (PySem.W.kla_obj "<lambda>" d.qual d.params d.body d.scope cl pm c ctv)
def Hk(H:Hp)(d:Fw)(cl:List (Str×Addr))(q:Addr):Prop:=∃c,H q=some (lamO d cl q c)∧H c=some (Rv c d.qual)
theorem JM{c:Addr}{qual:Str}{h1 h2:Heap}(x:h1.CodeRec (.ref c) qual)(k:∀o,h1.get? c=some o→h2.get? c=some o):h2.CodeRec (.ref c) qual:=by
 obtain⟨c2,oc,vs,t,e,ho,r⟩:=x
 cases e
 exact⟨c,oc,vs,t,rfl,k _ ho,r⟩
theorem Rw{c:Addr}{qual:Str}{h:Heap}(x:h.CodeRec (.ref c) qual):∃o,h.get? c=some o:=by
 obtain⟨c2,oc,vs,t,e,ho,r⟩:=x
 cases e
 exact⟨_,ho⟩
theorem abq{P:Program}{w:World}{H:Hp}{h:Heap}{c:Addr}{qual:Str}(x:h.CodeRec (.ref c) qual):ie P w H h c (Rv c qual) :=
 ⟨x,Rw x,fun _ _ a k=>JM a k⟩
theorem aad{P:Program}{w:World}{H:Hp}{h:Heap}{d:Fw}{cl:List (Str×Addr)}{q c:Addr}{pm ctv:Value}(e:h.get? q=some (PySem.W.kla_obj "<lambda>" d.qual d.params d.body d.scope cl pm c ctv)):ie P w H h q (lamO d cl q c) :=
 ⟨⟨pm,ctv,e⟩,⟨_,e⟩,fun h1 h2 ⟨pm,ctv,a⟩ k=>⟨pm,ctv,k _ a⟩⟩
theorem Ub(pos:Pos)(a b:Int)(c:Value):∀(l:List Value),TriplesOk l→∀cv,codeAmong pos (l++[rawInt a,rawInt b,c])=some cv→codeAmong pos l=some cv∨cv=c:=by
 intro l h
 fun_induction TriplesOk l with
 |case1 =>
  intro cv e
  simp only[List.nil_append,codeAmong,rawInt]at e
  split at e
  ·exact .inr (Option.some.inj e).symm
  ·cases e
 |case2 a' t b' u x rest ih =>
  intro cv e
  simp only[List.cons_append,codeAmong]at e ⊢
  split at e
  ·rename_i hc;rw[if_pos hc];exact .inl e
  ·rename_i hc;rw[if_neg hc];exact ih h cv e
 |case3 l h1 h2=>exact h.elim
def Xm(H:Hp)(p:Addr)(qual:Str):Prop:=∃ps:Array Value,H p=some (.tbl ps)∧TriplesOk ps.toList∧∀pos cv,codeAmong pos ps.toList=some cv→∃c,cv=.ref c∧H c=some (.ext fun h=>h.CodeRec (.ref c) qual)
def aca(H H':Hp)(p:Addr)(qual:Str):Prop:=∀ps:Array Value,H p=some (.tbl ps)→TriplesOk ps.toList→∃ps':Array Value,H' p=some (.tbl ps')∧TriplesOk ps'.toList∧∀pos cv,codeAmong pos ps'.toList=some cv→codeAmong pos ps.toList=some cv∨∃c,cv=.ref c∧H c=none∧H' c=some (.ext fun h=>h.CodeRec (.ref c) qual)
def Wf(P:Addr)(d:Fw)(cl:List (Str×Addr)):TE:=fun _ H Q=>Xm H P d.qual∧∀q H',(∀b o,H b=some o→b≠P→H' b=some o)→H q=none→aca H H' P d.qual→Hk H' d cl q→Q (.ref q) H'
section
variable {X:Cx}
theorem Inv.grown{pins:List (Addr×Obj)}{σ:St}{H H':Hp}{s:Shared}{P:Addr}{ps more:Array Value}{h':Heap}{t':Nat}(I:Inv X pins σ H s)(hP:H P=some (.tbl ps))(k:∀b o,b≠P→s.heap.get? b=some o→h'.get? b=some o)
  (hP':H' P=some (.tbl (ps++more))) (hHP:h'.get? P=some {cls:=.none,data:=.fields (ps++more)}) (hk:∀b o,H b=some o→b≠P→H' b=some o) (hn:∀b,b<s.heap.objs.size→H b=none→H' b=none)
  (hnew:∀b o,H b=none→H' b=some o→ie X.prog X.w H' h' b o):Inv X pins σ H' {s with heap:=h',toks:=t'}:=by
 have nP:∀b,H b=none→b≠P:=fun b e z=>by rw[z,hP]at e;cases e
 refine I.un ⟨fun b o e n _ _=>k b o (nP b n) e,fun b o e n _ _=>⟨o.slots,k b o (nP b n) e⟩,fun b o e n _=>hn b (Heap.lt_size e) n,fun b o e _=>?_,fun b xs e=>hk b _ e (fun z=>by rw[z,hP]at e;cases e),fun b o u e=>hk b _ e (fun z=>by rw[z,hP]at e;cases e),fun b qs e=>?_⟩ fun b o e=>?_
 ·by_cases z:b=P
  ·exact⟨_,by rw[z];exact hHP⟩
  ·exact⟨o,k b o z e⟩
 ·by_cases z:b=P
  ·rw[z,hP]at e;cases e;exact⟨more,by rw[z];exact hP'⟩
  ·exact⟨#[],by rw[hk b _ e z];simp⟩
 ·cases q:H b with
  |none=>exact hnew b o q e
  |some o2 =>
   by_cases z:b=P
   ·subst z
    rw[hP']at e
    cases e
    exact hHP
   ·rw[hk b o2 q z]at e
    cases e
    refine(I.hok b o q).stay (fun c u hc hu=>k c u ?_ hu) (fun c hc=>hk c _ hc fun z=>by rw[z,hP]at hc;cases hc) fun c xs hc=>hk c _ hc fun z=>by rw[z,hP]at hc;cases hc
    rcases hc with rfl|hc
    ·exact z
    ·intro z;rw[z,hP]at hc;cases hc
theorem adq{params:Arguments}{body:Expr}{scope:Scope}{pos:Pos}{own:List (Str×Nat)}{c P:Addr}(ok:wQ X.N X.env.scope scope own)(hcode:X.env.code=.ref c)(C:∀h,X.K.In h→PySem.W.CodeHd h c P)(hb:∃bm o,X.mg "__builtins__" = some (.ref bm)∧bm≠builtinsNs∧bm≠mainGlobals∧X.base.get? bm=some o∧o.cls=.type "module"∧o.dict=some builtinsNs∧o.data=.plain)
  {qual:Str} (hq:X.env.qual++"<lambda>" = qual) (hdef:defaultsOf params X.env=([],[]):=by rfl):PE X (.Lambda params body scope pos) (Wf P ⟨qual,params,body,scope⟩ (bx X.env.cells scope.names [])):=by
 intro pins s σ H Q I h
 obtain⟨⟨ps,hP,ht,hcs⟩,q⟩:=h
 have hfree:∀y∈scope.names,y.2=.free→∃c,X.env.cells.lookup y.1=some c:=fun y hy e=>by
  rcases ok.free y hy e with k|k
  ·exact I.ok.has _ (.inl k)
  ·exact I.ok.has _ (.inr k)
 have hobj:s.heap.get? P=some (PySem.W.tabObj ps):=I.hok P _ hP
 have ns:=I.mod.glob.keeps I.bk
 have neB:∀b o,X.base.get? b=some o→b≠P:=fun b o e z=>by
  have:=(I.bs b o e).2
  rw[z,hP]at this
  cases this
 have hgP:mainGlobals≠P:=by
  obtain⟨o,_,_,e,_⟩:=I.mod.glob
  exact neB _ _ e
 obtain⟨bm,ob,b1,b2,b3,b4,b5,b6,b7⟩:=hb
 have hbb:s.heap.BuiltinsAt X.mg P:=⟨bm,ob,b1,b2,b3,neB _ _ b4,I.bk _ _ b4,b5,b6,b7⟩
 refine PySem.W.kla_eval hdef ?_
 rw[hq]
 cases hf:codeAmong pos ps.toList with
 |some cv =>
  obtain⟨c',rfl,hc'⟩:=hcs pos cv hf
  refine PySem.W.kla_makeFunctionHit (CJ hfree) I.ok.glob ns hcode (C _ I.kIn) hobj ht hf hbb fun ctv h' tk hk hsz=>?_
  have hnew:(h'.push (PySem.W.kla_obj "<lambda>" qual params body scope (bx X.env.cells scope.names []) ((X.mg "__name__").getD .none) c' ctv)).get? h'.objs.size=some (PySem.W.kla_obj "<lambda>" qual params body scope (bx X.env.cells scope.names []) ((X.mg "__name__").getD .none) c' ctv):=Heap.get?_push_size _ rfl
  have hn:H h'.objs.size=none:=I.hok.fresh hsz
  have keep:∀b o,H b=some o→upd H h'.objs.size (lamO ⟨qual,params,body,scope⟩ (bx X.env.cells scope.names []) h'.objs.size c') b=some o:=fun b o e=>by rw[aO (bj e hn)];exact e
  refine⟨.ref h'.objs.size,upd H h'.objs.size (lamO ⟨qual,params,body,scope⟩ (bx X.env.cells scope.names []) h'.objs.size c'),I.laid (t':=tk) (fun b o e=>Heap.get?_push_of_some _ (hk b o e)) hsz (aad (d:=⟨qual,params,body,scope⟩) hnew),rfl,?_⟩
  exact q _ _ (fun b o e _=>keep b o e) hn (fun ps0 e0 h0=>⟨ps0,keep _ _ e0,h0,fun pos cv e=>.inl e⟩) ⟨c',aX,keep _ _ hc'⟩
 |none =>
  refine PySem.W.kla_makeFunction (CJ hfree) I.ok.glob ns hcode (C _ I.kIn) hobj ht hf hgP hbb fun c' ctv h' tk hx hge hlt hrec htab=>?_
  generalize hobj2:PySem.W.kla_obj "<lambda>" qual params body scope (bx X.env.cells scope.names []) ((X.mg "__name__").getD .none) c' ctv=ob2
  have hnew:(h'.push ob2).get? h'.objs.size=some ob2:=by rw[← hobj2];exact Heap.get?_push_size _ rfl
  have hsz:s.heap.objs.size≤h'.objs.size:=Nat.le_trans hge (Nat.le_of_lt hlt)
  have hnc:H c'=none:=I.hok.fresh hge
  have hnq:H h'.objs.size=none:=I.hok.fresh hsz
  have ncq:c'≠h'.objs.size:=Nat.ne_of_lt hlt
  have hPs:P<s.heap.objs.size:=Heap.lt_size hobj
  have nPc:P≠c':=Nat.ne_of_lt (Nat.lt_of_lt_of_le hPs hge)
  have nPq:P≠h'.objs.size:=Nat.ne_of_lt (Nat.lt_of_lt_of_le hPs hsz)
  generalize hH':upd (upd (upd H P (.tbl (ps++#[rawInt pos.line,rawInt pos.col,.ref c']))) c' (Rv c' qual)) h'.objs.size (lamO ⟨qual,params,body,scope⟩ (bx X.env.cells scope.names []) h'.objs.size c')=H'
  have eq':H' h'.objs.size=some (lamO ⟨qual,params,body,scope⟩ (bx X.env.cells scope.names []) h'.objs.size c'):=by rw[← hH',aX]
  have ec':H' c'=some (Rv c' qual):=by rw[← hH',aO ncq,aX]
  have eP':H' P=some (.tbl (ps++#[rawInt pos.line,rawInt pos.col,.ref c'])):=by rw[← hH',aO nPq,aO nPc,aX]
  have keep:∀b o,H b=some o→b≠P→H' b=some o:=fun b o e n=>by
   rw[← hH',aO (bj e hnq),aO (bj e hnc),aO n];exact e
  have kc:∀b o,b≠P→s.heap.get? b=some o→(h'.push ob2).get? b=some o:=fun b o n e=>Heap.get?_push_of_some _ (hx b o n e)
  refine⟨.ref h'.objs.size,H',I.grown (t':=tk) hP kc eP' (Heap.get?_push_of_some _ htab) keep (fun b hb n=>?_) (fun b o n e=>?_),rfl,?_⟩
  ·rw[← hH',aO (Nat.ne_of_lt (Nat.lt_of_lt_of_le hb hsz)),aO (Nat.ne_of_lt (Nat.lt_of_lt_of_le hb hge)),aO (fun z=>by rw[z,hP]at n;cases n)];exact n
  ·by_cases z1:b=h'.objs.size
   ·subst z1
    rw[eq']at e;cases e
    rw[← hobj2]at hnew ⊢
    exact aad (d:=⟨qual,params,body,scope⟩) hnew
   ·by_cases z2:b=c'
    ·subst z2
     rw[ec']at e;cases e
     exact abq (JM hrec fun o e=>Heap.get?_push_of_some _ e)
    ·rw[← hH',aO z1,aO z2,aO (fun z=>by rw[z,hP]at n;cases n),n]at e
     cases e
  ·refine q _ _ keep hnq (fun ps0 e0 h0=>?_) ⟨c',eq',ec'⟩
   rw[hP]at e0
   cases e0
   refine⟨_,eP',?_,fun pos' cv e=>?_⟩
   ·rw[Array.toList_append]
    exact TriplesOk_snoc _ _ _ _ ht
   ·rw[Array.toList_append]at e
    rcases Ub pos' _ _ _ _ ht cv e with e|e
    ·exact .inl e
    ·exact .inr ⟨c',e,hnc,ec'⟩
end
end L2
end
section
set_option Elab.async false
set_option linter.all false
set_option maxRecDepth 100000
set_option maxHeartbeats 1000000
namespace L2
open PySem PySem.Spec PyProof.Rows
abbrev Cx.in1(X:Cx):Cx:={X with A:=X.A.in1}
abbrev Cx.lam(X:Cx)(s:Shared)(H:Hp)(env:Env):Cx:={X with A:=X.A.in1.deeper env,s_0:=s,H_0:=H,env:=env,outer:=X.stack,stack:=env::X.stack,ex:=[],fn:=fun _=>false,calm:=true,pn:=[],xe:=fun _ _=>False}
section
variable {X:Cx}{pins:List (Addr×Obj)}{σ:St}{H:Hp}{s:Shared}
theorem Cx.Ok.in1(o:X.Ok):X.in1.Ok:=⟨o.mod,o.kind,o.glob,o.blt,o.above,o.inj,o.has,o.cab,o.hd,o.frames,o.stk,o.exf,o.bs,o.bsz,o.Yp,o.U5,o.En,o.frf⟩
theorem Inv.in1(I:Inv X pins σ H s):Inv X.in1 pins σ H s:=⟨I.ok.in1,I.os,I.bare,I.base,I.loc,I.cell,I.free,I.uc,I.pin,I.hok,I.len⟩
theorem Inv.ad1(o:X.Ok)(I:Inv X.in1 pins σ H s):Inv X pins σ H s:=⟨o,I.os,I.bare,I.base,I.loc,I.cell,I.free,I.uc,I.pin,I.hok,I.len⟩
theorem Yk{scope:Scope}{p:Str}{k:Nat}{q c':Addr}{qual:Str}{x:V}{v:Value}{h₁:Heap}{t':Nat}(hc:X.calm=true)(I:Inv X pins σ H s)(ok:wQ X.N X.env.scope scope [(p,k)])(hN:X.N.Nodup)(hloc:scope.names.lookup p=some .local)(hcell:∀y∈scope.names,y.2≠.cell)(r:RelV x v)
  (hns:h₁.Ns s.heap.objs.size (fun y=>[(p,v)].reverse.lookup y)) (kp:∀b o,s.heap.get? b=some o→h₁.get? b=some o) :
  Inv (X.lam s H (PySem.W.envX qual scope s.heap.objs.size q (.ref c') (bx X.env.cells scope.names []))) [] ((wipe σ [k]).set k (some x)) H {s with heap:=h₁,toks:=t'}:=by
 have hfree:∀y∈scope.names,y.2=.free→∃c,X.env.cells.lookup y.1=some c:=fun y hy e=>by
  rcases ok.free y hy e with k|k
  ·exact I.ok.has _ (.inl k)
  ·exact I.ok.has _ (.inr k)
 have cm:∀{y c},(y,c)∈bx X.env.cells scope.names []→X.env.cells.lookup y=some c∧c<s.heap.objs.size:=fun{y c} hm=>by
  rcases sH hm with hm|⟨h1,rfl⟩
  ·cases hm
  ·obtain⟨c,hc⟩:=hfree _ h1 rfl
   rw[hc]
   obtain⟨w,z⟩:=I.cell _ _ hc
   exact⟨rfl,z.lt⟩
 have mem:∀{y c},(bx X.env.cells scope.names []).lookup y=some c→X.env.cells.lookup y=some c∧c<s.heap.objs.size:=fun{y c} e=>cm (PySem.mem_of_lookup e)
 have look:∀{y},scope.names.lookup y=some .free→∃c,(bx X.env.cells scope.names []).lookup y=some c∧X.env.cells.lookup y=some c:=fun{y} hl=>by
  obtain⟨c',e'⟩:=mem_lookup (vH (cells:=X.env.cells) (acc:=[]) (PySem.mem_of_lookup hl))
  exact⟨c',e',(mem e').1⟩
 have okL:(X.lam s H (PySem.W.envX qual scope s.heap.objs.size q (.ref c') (bx X.env.cells scope.names []))).Ok:=by
  refine⟨I.ok.mod,ok.kind,rfl,rfl,Nat.le_refl _,fun y z c e1 e2=>I.ok.inj y z c (mem e1).1 (mem e2).1,fun y hy=>?_,(fun y c z=>by cases z),fun _=>I.ok.hd hc,Around.frames_deeper I.ok.frames,.inr ⟨rfl,rfl⟩,fun b hb=>(by cases hb),I.bs,Nat.le_trans I.ok.bsz I.sz,fun b o e hb=>(by cases hb),fun b hb=>(by cases hb),I.stack,I.Q6⟩
  have hy:scope.names.lookup y=some .cell∨scope.names.lookup y=some .free:=hy
  rcases hy with hy|hy
  ·exact absurd rfl (hcell _ (PySem.mem_of_lookup hy))
  ·obtain⟨c,h1,_⟩:=look hy
   exact⟨c,h1⟩
 have hk:X.N[k]?=some p:=ok.ix (p,k) List.mem_cons_self
 have hkl:k<(wipe σ [k]).length:=by rw[sX,I.len];exact(List.getElem?_eq_some_iff.mp hk).1
 refine⟨okL,rfl,I.bare,Un.kept kp,⟨_,hns,fun i y av e1 e2 e3=>?_⟩,fun y c e=>?_,?_,fun y c e=>?_,fun p hp=>?_,I.hok.kept kp,by rw[List.length_set,sX];exact I.len⟩
 ·have e1:X.N[i]?=some y:=e1
  by_cases hi:k=i
  ·subst hi
   rw[List.getElem?_set_self hkl]at e2
   cases e2
   rw[hk]at e1
   cases e1
   refine⟨v,r,.inl ⟨hloc,?_⟩⟩
   show List.lookup p [(p,v)]=some v
   rw[List.lookup_cons,beq_self_eq_true]
  ·rw[List.getElem?_set_ne hi]at e2
   obtain⟨e2,hne⟩:=Br e2
   have hfr:scope.names.lookup y=some .free:=by
    rcases e3 with e3|e3|e3
    ·rcases ok.own _ (PySem.mem_of_lookup e3) (.inl rfl)with e' | e'
     ·have:y=p:=by simpa using e'
      subst this
      exact absurd (Et hN hk e1) hi
     ·exact absurd (List.mem_of_getElem? e1) e'
    ·exact absurd rfl (hcell _ (PySem.mem_of_lookup e3))
    ·exact e3
   obtain⟨m,hn,hl⟩:=I.loc
   have hvis:Vis X.env.scope y:=(ok.free _ (PySem.mem_of_lookup hfr) rfl).elim (fun k=>.inr (.inl k)) (fun k=>.inr (.inr k))
   obtain⟨w,r',l⟩:=hl i y av e1 e2 hvis
   refine⟨w,r',.inr ⟨.inr hfr,?_⟩⟩
   obtain⟨c,h1,h2⟩:=look hfr
   rcases l with ⟨k',_⟩|⟨_,c2,e',z⟩
   ·have k':X.env.scope.names.lookup y=some .local:=k'
    rcases ok.free _ (PySem.mem_of_lookup hfr) rfl with k2|k2<;>rw[show X.env.scope.names.lookup y=_ from k2]at k'<;>cases k'
   ·rw[h2]at e';cases e'
    exact⟨c,h1,z.keeps kp⟩
 ·obtain⟨w,z⟩:=I.cell y c (mem e).1
  exact⟨w,z.keeps kp⟩
 ·exact I.hok.fresh (Nat.le_refl _)
 ·exact I.uc y c (mem e).1
 ·exact absurd (show p∈([]:List (Addr×Obj))++[]from hp) (by simp)
theorem aac{d:Fw}{p:Str}{k:Nat}{q:Addr}{x:V}{v:Value}{te:TE}{Q:VK}{E:Value→Shared→Prop}(hc:X.calm=true)(I:Inv X pins σ H s)(ok:wQ X.N X.env.scope d.scope [(p,k)])(hN:X.N.Nodup)(hloc:d.scope.names.lookup p=some .local)(hcell:∀y∈d.scope.names,y.2≠.cell)
  (hco:d.scope.isCoroutine=false) (hgen:d.scope.isGenerator=false) (hbind:∀(pm cdv ct:Value) (cl:List (Str×Addr)) (v:Value),bindArgs (PySem.W.kla_fn "<lambda>" d.qual d.params d.body d.scope cl pm cdv ct) ⟨[v],[]⟩=pure [(p,v)])
  (hd:X.A.depth<recursionLimit) (il:Hk H d (bx X.env.cells d.scope.names []) q) (r:RelV x v)
  (he:∀(s:Shared) (H:Hp) (L c':Addr) (cl:List (Str×Addr)),PE (X.lam s H (PySem.W.envX d.qual d.scope L q (.ref c') cl)) d.body te) (h:te ((wipe σ [k]).set k (some x)) H Q) :
  wpAny (model X.prog X.w) X.A.in1 (call (.ref q) [v]) (EP X pins σ Q) E s:=by
 obtain⟨c',hq,hcd⟩:=il
 obtain⟨⟨pm,ctv,eq⟩,_⟩:=(show ie X.prog X.w H s.heap q (lamO d (bx X.env.cells d.scope.names []) q c')from I.hok q _ hq)
 obtain⟨crec,_⟩:=(show ie X.prog X.w H s.heap c' (Rv c' d.qual)from I.hok c' _ hcd)
 refine wpAny_call (PySem.W.kla_callFunE hd eq rfl hco hgen rfl crec ?_)
 rw[hbind]
 refine wpAny_pure (wpAny_newFunctionEnv hcell (fun y hy=>?_) (fun h₁ hns hsb=>⟨I.nolimit.fresh _ hsb,?_⟩) ok.kind)
 ·have:y=(p,v):=by simpa using hy
  rw[this];exact hloc
 have kp:∀b o,s.heap.get? b=some o→h₁.get? b=some o:=fun b o e=>hsb.extBut b o (Nat.ne_of_lt (Heap.lt_size e)) (Heap.get?_push_of_some _ e)
 have IL:=Yk (qual:=d.qual) (q:=q) (c':=c') (t':=s.toks+1) hc I ok hN hloc hcell r hns kp
 refine PySem.W.kla_codeExpr (wpAny_mono (he s H s.heap.objs.size c' (bx X.env.cells d.scope.names []) [] _ _ H _ IL h) (fun u s' ⟨y,H',J,ry,qy⟩=>?_) fun _ _ z=>z.elim)
 exact⟨y,H',I.call' (ch:=[]) J.os J.base J.hok J.bare (fun b z=>by cases z),ry,qy⟩
end
end L2
end
section
set_option Elab.async false
set_option linter.all false
set_option maxRecDepth 100000
set_option maxHeartbeats 1000000
namespace L2
open PySem PySem.Spec PyProof.Rows
def pJ(tup:Bool)(y:V)(H:Hp)(k:List Int):Prop:=match tup with
 |true=>∃a,y=.ref a∧H a=some (.tup (k.map V.int))
 |false=>∃i,k=[i]∧y=.int i
theorem pJ.up{tup:Bool}{y:V}{H H':Hp}{k:List Int}(h:pJ tup y H k)(s:aY H H'):pJ tup y H' k:=by
 cases tup with
 |true=>obtain⟨a,e,q⟩:=h;exact⟨a,e,s _ _ q⟩
 |false=>exact h
theorem pJ.upT{tup:Bool}{y:V}{H H':Hp}{k:List Int}(h:pJ tup y H k)(s:∀b xs,H b=some (.tup xs)→H' b=some (.tup xs)):pJ tup y H' k:=by
 cases tup with
 |true=>obtain⟨a,e,q⟩:=h;exact⟨a,e,s _ _ q⟩
 |false=>exact h
theorem Bg(i j:Int):HT.lexLt [i] [j]=decide (i<j):=by
 rw[HT.jH,HT.Cd]
 by_cases h:i=j
 ·rw[if_pos h,h];simp
 ·rw[if_neg h]
theorem Kd:∀{a b c:List Int},HT.lexLt a b=true→HT.lexLt b c=true→HT.lexLt a c=true
 |[],[],_,h,_=>by cases h
 |_::_,[],_,h,_=>by cases h
 |[],_::_,[],_,h=>by cases h
 |[],_::_,_::_,_,_=>rfl
 |_::_,_::_,[],_,h=>by cases h
 |x::a,y::b,z::c,h1,h2=>by
  rw[HT.jH]at h1 h2 ⊢
  by_cases e1:x=y
  ·rw[if_pos e1]at h1
   subst e1
   by_cases e2:x=z
   ·rw[if_pos e2]at h2 ⊢
    exact Kd h1 h2
   ·rw[if_neg e2]at h2 ⊢
    exact h2
  ·rw[if_neg e1,decide_eq_true_eq]at h1
   by_cases e2:y=z
   ·subst e2
    rw[if_neg e1,decide_eq_true_eq]
    exact h1
   ·rw[if_neg e2,decide_eq_true_eq]at h2
    rw[if_neg (by omega),decide_eq_true_eq]
    omega
section
variable {X:Cx}{pins:List (Addr×Obj)}{σ:St}{H:Hp}{s:Shared}
theorem ac6{tup:Bool}{y1 y2:V}{k1 k2:List Int}{u1 u2:Value}{A:Around}{Q:Value→Shared→Prop}{E:Value→Shared→Prop}(I:Inv X pins σ H s)(h1:pJ tup y1 H k1)(h2:pJ tup y2 H k2)(r1:RelV y1 u1)(r2:RelV y2 u2)(hu:A.units<cLine)(q:Q (.bool (HT.lexLt k1 k2)) s) :
  wpAny (model X.prog X.w) A (richCompare .Lt u1 u2) Q E s:=by
 cases tup with
 |false =>
  obtain⟨i,rfl,rfl⟩:=h1
  obtain⟨j,rfl,rfl⟩:=h2
  obtain⟨t,rfl⟩:=(show ∃t,u1=Value.int i t from r1)
  obtain⟨t',rfl⟩:=(show ∃t,u2=Value.int j t from r2)
  rw[Bg]at q
  exact HT.S_ A s i t j t' X.prog X.w E Q q
 |true =>
  obtain⟨a,rfl,e1⟩:=h1
  obtain⟨b,rfl,e2⟩:=h2
  cases (show u1=Value.ref a from r1)
  cases (show u2=Value.ref b from r2)
  obtain⟨its,v1,p1,_⟩:=I.tuple (SqT.of e1)
  obtain⟨its2,v2,p2,_⟩:=I.tuple (SqT.of e2)
  exact(HT.Vi p1 p2 (intsAre_of v1) (intsAre_of v2) hu q:wpAny (model X.prog X.w) A (compareOp .Lt (.ref a) (.ref b)) Q E s)
theorem sY.at{H':Hp}{b:Addr}(f:sY X pins H b)(h:H' b=none):sY X pins H' b:=⟨h,f.2⟩
def Aq(X:Cx)(σ:St)(q:Addr)(tup:Bool)(kf:Nat→List Int)(xs:List V)(H0:Hp):Prop :=
 ∀(i:Nat) (x:V) (v:Value) (pins:List (Addr×Obj)) (s:Shared) (H2:Hp),xs[i]?=some x→RelV x v→Inv X pins σ H2 s→aY H0 H2 →
  wpAny (model X.prog X.w) X.A.in1 (call (.ref q) [v]) (EP X pins σ fun y H3=>aY H2 H3∧pJ tup y H3 (kf i)) (fun _ _=>False) s
theorem Z6{q it l:Addr}{tup:Bool}{kf:Nat→List Int}{xs:List V}{H0:Hp}{i j:Nat}{x:V}{v:Value}{Q:Value→Shared→Prop}{E:Value→Shared→Prop}(turn:Aq X σ q tup kf xs H0)(I:Inv X pins σ H s)(s0:aY H0 H)(f:sY X pins H it)(st:s.heap.IsListIter it l j)(hx:xs[i]?=some x)(r:RelV x v)
  (k:∀u s' y H',Inv X pins σ H' s'→aY H H'→sY X pins H' it→s'.heap.IsListIter it l j→RelV y u→pJ tup y H' (kf i)→Q u s'):wpAny (model X.prog X.w) X.A.in1 (call (.ref q) [v]) Q E s:=by
 obtain⟨o,eo,c,d⟩:=id st
 have I':=I.pinned (fp:=[it]) (fun b hb=>(List.mem_singleton.mp hb)▸f) (fun b hb=>(List.mem_singleton.mp hb)▸⟨o,eo,fun v z=>by rw[d]at z;cases z⟩)
 refine wpAny_mono (turn i x v _ s H hx r I' s0) (fun u s' ⟨y,H',J,ry,sm,ka⟩=>?_) fun _ _ z=>z.elim
 obtain⟨p1,p2,_⟩:=J.pin (it,o) (List.mem_append_right _ (List.mem_append_right _ (uL (by simp) eo)))
 exact k u s' y H' J.xQ sm (f.at p2) ⟨o,p1,c,d⟩ ry ka
def acE(tup:Bool)(kf:Nat→List Int)(xs:List V)(H:Hp)(j:Nat)(best:List V):Prop :=
 (j=0∧best=[])∨∃i x y,i<j∧xs[i]?=some x∧best=[x,y]∧pJ tup y H (kf i)∧∀j',j'<j→HT.lexLt (kf j') (kf i)=false
theorem Lz{x y:V}{its:List Value}(r:Vals [x,y] its):∃u v,its=[u,v]∧RelV x u∧RelV y v:=by
 cases r with
 |cons r1 rr =>
  cases rr with
  |cons r2 rr =>
   cases rr
   exact⟨_,_,rfl,r1,r2⟩
theorem Ly{its:List Value}(r:Vals [] its):its=[]:=by
 cases r;rfl
theorem aag{l q S it:Addr}{tup:Bool}{kf:Nat→List Int}{xs:List V}{H0:Hp}{kw:List (Str×Value)}{R:Result→Shared→Prop}(hc:X.calm=true)(hu:X.A.in1.units<cLine)(turn:Aq X σ q tup kf xs H0)(hl:H0 l=some (.lst xs))(hS0:H0 S=none)
  (hR:∀i x v s' H',xs[i]?=some x→(∀j',j'<xs.length→HT.lexLt (kf j') (kf i)=false)→Inv X pins σ H' s'→aY H0 H'→RelV x v→R (.ok (.ret v)) s')
  (hE:xs=[]→∀s' H',Inv X pins σ H' s'→aY H0 H'→∃n d,kw=[(n,d)]∧R (.ok (.ret d)) s') :
  ∀(r j:Nat) (H:Hp) (s:Shared) (best:List V),xs.length - j=r→j≤xs.length→Inv X pins σ H s→aY H0 H→H S=some (.lst best)→sY X pins H it→s.heap.IsListIter it l j→acE tup kf xs H j best →
   codeAny (model X.prog X.w) X.A (.builtin "min.loop" ⟨[.ref it,.ref q,.ref S],kw⟩) R s:=by
 have hname:(toString "min"++toString ".loop" : String) = "min.loop":=by decide
 have T:=Ox (P:=X.prog) (w:=X.w) (K:=X.K) (tg:=.Name "x" ⟨0,0,0,0⟩) l it
 have wr:∀{H:Hp} {o:HO},aY H0 H→aY H0 (upd H S o):=fun s b o e=>by rw[aO (bj e hS0)];exact s _ _ e
 have nit:∀{H:Hp} {b:List V} {o:HO},H S=some (.lst b)→sY X pins H it→sY X pins (upd H S o) it:=fun hS f=>f.at (by rw[aO (fun z=>by have:=f.1;rw[z,hS]at this;cases this)];exact f.1)
 intro r
 induction r with
 |zero =>
  intro j H s best hr hj I s0 hS f st hb
  have hjl:j=xs.length:=by omega
  obtain⟨z,its,n,rv,hl',e⟩:=I.Ih hS
  refine codeAny_builtin PySem.F.entry_min_loop ?_
  rw[Around.under_plainId PySem.F.plain_min_loop _]
  show wpAny _ X.A.in1 (seqItems? (.ref S) >>= _) _ _ _
  refine wpAny_bind (wpAny_seqItems e rfl ?_)
  show wpAny _ X.A.in1 (tryCatch (pyNext (.ref it)) _ >>= _) _ _ _
  refine wpAny_bind (wpAny_tryCatch (wpAny_mono (T.done X.in1 rfl rfl rfl hc j pins s σ H _ I.in1 (fun b hb=>(List.mem_singleton.mp hb)▸f) st ⟨xs,SqL.of (s0 _ _ hl),by omega⟩) (fun r1 s1 ⟨hr1,I1⟩=>?_) fun _ _ z=>z))
  subst hr1
  have I1:=Inv.ad1 I.ok I1
  obtain⟨_,its2,n2,rv2,_,e2⟩:=I1.Ih hS
  rcases hb with ⟨h0,hb⟩|⟨i,x,y,hi,hx,hb,hk,hm⟩
  ·subst hb
   have:=Ly rv
   subst this
   obtain⟨nn,d,ekw,rr⟩:=hE (List.length_eq_zero_iff.mp (by omega)) s1 H I1 s0
   subst ekw
   exact wpAny_bind (wpAny_rule (wpAny_pure rr))
  ·subst hb
   obtain⟨vx,vy,rfl,rx,ry⟩:=Lz rv
   show wpAny _ X.A.in1 (updateSeq S (fun _=>#[]) >>= _) _ _ _
   refine wpAny_bind (wpAny_updateSeq e2 rfl (wpAny_bind (wpAny_letGo (wpAny_pure ?_))))
   exact hR i x vx _ _ hx (fun j' h=>hm j' (by omega)) (I1.R5 (its':=[]) (ys:=[]) (t':=s1.toks) hS e2 rfl .nil (Nat.zero_le _)) (wr s0) rx
 |succ r ih =>
  intro j H s best hr hj I s0 hS f st hb
  have hjl:j<xs.length:=by omega
  obtain⟨z,its,n,rv,hl',e⟩:=I.Ih hS
  refine codeAny_builtin PySem.F.entry_min_loop ?_
  rw[Around.under_plainId PySem.F.plain_min_loop _]
  show wpAny _ X.A.in1 (seqItems? (.ref S) >>= _) _ _ _
  refine wpAny_bind (wpAny_seqItems e rfl ?_)
  show wpAny _ X.A.in1 (tryCatch (pyNext (.ref it)) _ >>= _) _ _ _
  have hx:xs[j]?=some xs[j]:=List.getElem?_eq_getElem hjl
  generalize xs[j]=x at hx
  obtain⟨lits,lrv,lp,_⟩:=I.list (SqL.of (K:=X.K) (s0 _ _ hl))
  obtain⟨u,hu',ru⟩:=lrv.get hx
  refine wpAny_bind (wpAny_tryCatch (wpAny_pyNext_list_item st lp.isList (x:=u) (by simpa using hu') fun h' st' sb=>?_))
  obtain⟨f0,f1,f2,f3,f4,f5⟩:=id f
  have I1:Inv X pins σ H {s with heap:=h'}:=I.turned (t':=s.toks) (fun b o hb e=>(sb.2 b hb).trans e) f0 f1 f3 f4 f5
  show wpAny _ X.A.in1 (tryCatch (holding [u] (call (.ref q) [u])) _ >>= _) _ _ _
  refine wpAny_bind (wpAny_tryCatch (wpAny_holding (Z6 turn I1 s0 f st' hx ru fun ku s2 y2 H2 I2 sm2 f2 st2 ry2 ka2=>?_)))
  have hS2:=sm2 _ _ hS
  obtain⟨_,its2,n2,rv2,_,e2⟩:=I2.Ih hS2
  have s02:=s0.trans sm2
  have new:∀{s':Shared},Inv X pins σ (upd H2 S (.lst [x,y2])) s'→s'.heap.IsListIter it l (j+1)→(∀j',j'<j+1→HT.lexLt (kf j') (kf j)=false)→codeAny (model X.prog X.w) X.A (.builtin "min.loop" ⟨[.ref it,.ref q,.ref S],kw⟩) R s':=fun{s'} I' st' hm=>by
   refine ih (j+1) _ s' [x,y2] (by omega) hjl I' (wr s02) aX (nit hS2 f2) st' (.inr ⟨j,x,y2,Nat.lt_succ_self _,hx,rfl,ka2.upT fun b xs e=>?_,hm⟩)
   rw[aO (cB e hS2 (by intro z;cases z))];exact e
  have itk:∀{f:Array Value→Array Value},(s2.heap.update S (Obj.mapSeq f)).IsListIter it l (j+1):=fun{f}=>by
   obtain⟨o,eo,c,d⟩:=st2
   refine⟨o,?_,c,d⟩
   rw[Heap.get?_update_other s2.heap _ (fun z=>by have:=f2.1;rw[← z,hS2]at this;cases this)]
   exact eo
  rcases hb with ⟨h0,hb⟩|⟨i,xb,yb,hi,hxb,hb,hk,hm⟩
  ·subst hb
   have:=Ly rv
   subst this
   have:=Ly rv2
   subst this
   show wpAny _ X.A.in1 (updateSeq S (fun _=>#[u,ku]) >>= _) _ _ _
   refine wpAny_bind (wpAny_updateSeq e2 rfl ?_)
   rw[hname]
   refine wpAny_pure ⟨plainId_quiet PySem.F.plain_min_loop _,new (I2.R5 (its':=[u,ku]) (ys:=[x,y2]) (t':=s2.toks) hS2 e2 rfl (.cons ru (.cons ry2 .nil)) (by show 2≤sizeLine;decide)) itk fun j' hj'=>?_⟩
   have:j'=j:=by omega
   rw[this]
   cases q:HT.lexLt (kf j) (kf j)with
   |false=>rfl
   |true =>
    exfalso
    have irr:∀l:List Int,HT.lexLt l l=false:=fun l=>by
     induction l with
     |nil=>rfl
     |cons a r ih=>rw[HT.jH,if_pos rfl];exact ih
    rw[irr]at q;cases q
  ·subst hb
   obtain⟨vx,vy,rfl,rx,ry⟩:=Lz rv
   obtain⟨vx2,vy2,rfl,rx2,ry2'⟩:=Lz rv2
   show wpAny _ X.A.in1 (tryCatch (holding [u,ku] (richCompare .Lt ku vy >>= _)) _ >>= _) _ _ _
   refine wpAny_bind (wpAny_tryCatch (wpAny_holding (wpAny_bind (ac6 (A:=X.A.in1) I2 ka2 (hk.up sm2) ry2 ry hu ?_))))
   refine wpAny_bind (wpAny_holding (wpAny_truthy_bool ?_))
   refine wpAny_bind (wpAny_letGo (wpAny_pure ?_))
   cases hb':HT.lexLt (kf j) (kf i)with
   |true =>
    simp only[if_true]
    refine wpAny_bind ?_
    refine wpAny_updateSeq e2 rfl (wpAny_bind (wpAny_letGo ?_))
    rw[hname]
    refine wpAny_pure ⟨plainId_quiet PySem.F.plain_min_loop _,new (I2.R5 (its':=[u,ku]) (ys:=[x,y2]) (t':=s2.toks) hS2 e2 rfl (.cons ru (.cons ry2 .nil)) (by show 2≤sizeLine;decide)) itk fun j' hj'=>?_⟩
    cases q:HT.lexLt (kf j') (kf j)with
    |false=>rfl
    |true =>
     exfalso
     by_cases ej:j'=j
     ·subst ej
      have irr:∀l:List Int,HT.lexLt l l=false:=fun l=>by
       induction l with
       |nil=>rfl
       |cons a r ih=>rw[HT.jH,if_pos rfl];exact ih
      rw[irr]at q;cases q
     ·have:=hm j' (by omega)
      rw[Kd q hb']at this
      cases this
   |false =>
    simp only[Bool.false_eq_true,if_false]
    refine wpAny_bind (wpAny_letGo ?_)
    rw[hname]
    refine wpAny_pure ⟨plainId_quiet PySem.F.plain_min_loop _,ih (j+1) H2 s2 [xb,yb] (by omega) hjl I2 s02 hS2 f2 st2 (.inr ⟨i,xb,yb,by omega,hxb,rfl,hk.up sm2,fun j' hj'=>?_⟩)⟩
    by_cases ej:j'=j
    ·rw[ej];exact hb'
    ·exact hm j' (by omega)
end
end L2
end
section
set_option Elab.async false
set_option linter.all false
set_option maxRecDepth 100000
set_option maxHeartbeats 200000
namespace L2
open PySem PySem.Spec PyProof.Rows
theorem O5(a v:Value):argsOk "min" ⟨[a],[(Str.ofString "key",v)]⟩:=kmk_min_key a v
theorem Ji(a v u:Value):argsOk "min" ⟨[a],[(Str.ofString "key",v),(Str.ofString "default",u)]⟩:=by unfold argsOk;kernel_rfl
structure Wl(X:Cx)(d:Fw)(p:Str)(k:Nat):Prop where
 ok:wQ X.N X.env.scope d.scope [(p,k)]
 loc:d.scope.names.lookup p=some .local
 cell:∀y∈d.scope.names,y.2≠.cell
 co:d.scope.isCoroutine=false
 gen:d.scope.isGenerator=false
 bind:∀(pm cdv ct:Value) (cl:List (Str×Addr)) (v:Value),bindArgs (PySem.W.kla_fn "<lambda>" d.qual d.params d.body d.scope cl pm cdv ct) ⟨[v],[]⟩=pure [(p,v)]
def O3(te:TE)(k:Nat)(tup:Bool)(kf:Nat→List Int)(xs:List V)(σ:St)(H:Hp):Prop:=∀i x,xs[i]?=some x→∀H3,aY H H3→te ((wipe σ [k]).set k (some x)) H3 fun y H4=>aY H3 H4∧pJ tup y H4 (kf i)
section
variable {X:Cx}{pins:List (Addr×Obj)}{σ:St}{H:Hp}{s:Shared}
theorem Hk.up{H H':Hp}{d:Fw}{cl:List (Str×Addr)}{q:Addr}(h:Hk H d cl q)(s:aY H H'):Hk H' d cl q:=let ⟨c,a,b⟩:=h;⟨c,s _ _ a,s _ _ b⟩
theorem Q7{d:Fw}{p:Str}{k:Nat}{te:TE}{q:Addr}{tup:Bool}{kf:Nat→List Int}{xs:List V}{H0:Hp}(hc:X.calm=true)(hN:X.N.Nodup)(L:Wl X d p k)(hd:X.A.depth<recursionLimit)
  (he:∀(s:Shared) (H:Hp) (L q c':Addr) (cl:List (Str×Addr)),PE (X.lam s H (PySem.W.envX d.qual d.scope L q (.ref c') cl)) d.body te) (il:Hk H0 d (bx X.env.cells d.scope.names []) q) (kb:O3 te k tup kf xs σ H0):Aq X σ q tup kf xs H0 :=
 fun i x v pins s H2 hx r I sm=>aac hc I L.ok hN L.loc L.cell L.co L.gen L.bind hd (il.up sm) r (fun s H L c' cl=>he s H L q c' cl) (kb i x hx H2 sm)
theorem R9{l q:Addr}{tup:Bool}{kf:Nat→List Int}{xs:List V}{kw:List (Str×Value)}{dv:List Value}{Q:VK}(hc:X.calm=true)(hu:X.A.in1.units<cLine)(I:Inv X pins σ H s)(turn:Aq X σ q tup kf xs H)(hl:H l=some (.lst xs))
  (hargs:argsOk "min" ⟨[.ref l],kw⟩) (hbp:Builtin.Builtins.bindParams "min" ["key","default"] 0 ⟨[],kw⟩=pure [some (.ref q),dv.head?]) (hdv:dv=[]∨dv=[.none])
  (h0:xs=[]→dv=[.none]∧∀H',aY H H'→Q .non H') (h1:∀i x H',xs[i]?=some x→(∀j',j'<xs.length→HT.lexLt (kf j') (kf i)=false)→aY H H'→Q x H') :
  wpAny (model X.prog X.w) X.A (call (.builtin "min") [.ref l] kw) (EP X pins σ Q) X.xe s:=by
 have hname:(toString "min"++toString ".loop" : String) = "min.loop":=by decide
 obtain⟨lits,lrv,lp,_⟩:=I.list (SqL.of (K:=X.K) hl)
 refine kmk_tree PySem.F.kind_min PySem.F.plain_min PySem.F.entry_min hargs ?_
 show wpAny _ X.A.in1 (Builtin.Builtins.bindParams "min" ["key","default"] 0 ⟨[],kw⟩ >>= _) _ _ s
 refine wpAny_bind (wpAny_of_eq hbp ?_)
 refine wpAny_bind (wpAny_pure ?_)
 refine wpAny_bind (wpAny_pyIter_list lp.isList ?_)
 refine wpAny_bind (wpAny_newList ?_ (Nat.zero_le _))
 rw[hname]
 generalize hit:s.heap.objs.size=it
 have I1:Inv X pins σ H {s with heap:=s.heap.push {cls:=.type "list_iterator",data:=.fields #[.ref l,.int 0 0]}}:=I.kept (t':=s.toks) fun b o e=>Heap.get?_push_of_some _ e
 have fit:sY X pins H it:=I.X5 (Nat.le_of_eq hit) (I.hok.fresh (Nat.le_of_eq hit))
 have hS:H (s.heap.push {cls:=.type "list_iterator",data:=.fields #[.ref l,.int 0 0]}).objs.size=none:=I1.fresh
 have I2:=I1.ade (its:=[]) (ys:=[]) (t':=s.toks) .nil (Nat.zero_le _)
 have st2:((s.heap.push {cls:=.type "list_iterator",data:=.fields #[.ref l,.int 0 0]}).push {cls:=.type "list",data:=.seq ([]:List Value).toArray}).IsListIter it l 0:=⟨_,Heap.get?_push_of_some _ (by rw[← hit];exact Heap.get?_push_size _ rfl),rfl,rfl⟩
 have same0:=jl (o:=.lst []) hS
 have nS:it≠(s.heap.push {cls:=.type "list_iterator",data:=.fields #[.ref l,.int 0 0]}).objs.size:=by rw[Heap.size_push,← hit];exact Nat.ne_of_lt (Nat.lt_succ_self _)
 refine wpAny_pure ⟨plainId_quiet PySem.F.plain_min_loop _,?_⟩
 refine aag (H0:=H) (tup:=tup) (kf:=kf) (xs:=xs) hc hu turn hl hS (fun i x v s' H' hx hm I' sm r=>?_) (fun e s' H' I' sm=>?_) _ 0 _ _ [] rfl (Nat.zero_le _) I2 same0 aX (fit.at (by rw[aO nS];exact fit.1)) st2 (.inl ⟨rfl,rfl⟩)
 ·exact⟨x,H',I',r,h1 i x H' hx hm sm⟩
 ·obtain⟨e1,e2⟩:=h0 e
  subst e1
  exact⟨_,_,rfl,.non,H',I',rfl,e2 H' sm⟩
def Z2(v:V):Prop:=v=.non
def tKw(tl tlam:TE)(r:St→V→V→Hp→VK→Prop):TE:=fun σ H Q=>tl σ H fun v H1=>tlam σ H1 fun qv H2=>r σ v qv H2 Q
variable {d:Fw}{p x:Str}{k:Nat}{te tl tlam:TE}{e lamE:Expr}{pn pos kp kp2 kp3:Pos}{id:String}{r:St→V→V→Hp→VK→Prop}
theorem aay(hg:Gl X x)(hm:X.mg x=none)(hbm:bootBuiltins x=some (.builtin id))(hl:PE X e tl)(hlam:PE X lamE tlam)
  (hcall:∀pins s σ H v u qv qu Q,Inv X pins σ H s→RelV v u→RelV qv qu→r σ v qv H Q→wpAny (model X.prog X.w) X.A (call (.builtin id) [u] [(Str.ofString "key",qu)]) (EP X pins σ Q) X.xe s)
  (hn:x≠"__name__":=by decide) (hdb:(x==("__debug__" : Str))=false:=by decide) (hs:starEach [e] X.env=(false,eval e X.env)::starEach [] X.env:=by rfl) :
  PE X (.Call (.Name x pn) [e] [⟨some "key",lamE,kp⟩] pos) (tKw tl tlam r):=by
 intro pins s σ H Q I h
 refine wpAny_Call_Name_kw (CV I hg hm hbm ?_ hn hdb)
 refine callWith_kw (thn ((aj hl aq hs) pos pins s σ H (fun vs H1=>match vs with | [v]=>tlam σ H1 fun qv H2=>r σ v qv H2 Q | _=>False) I h) fun us s1 ⟨vs,H1,I1,r1,q1⟩=>?_) (by rw[hs];rfl) (by rw[hs];rfl)
 cases vs with
 |nil=>exact q1.elim
 |cons v vt =>
  cases vt with
  |cons _ _=>exact q1.elim
  |nil =>
   obtain⟨u,rfl,ru⟩:=vals1 r1
   refine thn ((QH hlam aaE) pos pins s1 σ H1 (fun ws H2=>match ws with | [qv]=>r σ v qv H2 Q | _=>False) I1 q1) fun kus s2 ⟨ws,H2,I2,r2,q2⟩=>?_
   cases ws with
   |nil=>exact q2.elim
   |cons qv wt =>
    cases wt with
    |cons _ _=>exact q2.elim
    |nil =>
     obtain⟨qu,rfl,rqu⟩:=vals1 r2
     have hks:(backToKw pos (keywordEach [⟨some (Str.ofString "key"),lamE,kp⟩] X.env)).filterMap (·.1)=[Str.ofString "key"]:=rfl
     rw[hks,List.zip_cons_cons,List.zip_nil_left]
     exact hcall pins s2 σ H2 v u qv qu Q I2 ru rqu q2
theorem adp(hg:Gl X x)(hm:X.mg x=none)(hbm:bootBuiltins x=some (.builtin id))(hl:PE X e tl)(hlam:PE X lamE tlam){dE:Expr}(hdE:PE X dE (tC .non))
  (hcall:∀pins s σ H v u qv qu Q,Inv X pins σ H s→RelV v u→RelV qv qu→r σ v qv H Q→wpAny (model X.prog X.w) X.A (call (.builtin id) [u] [(Str.ofString "key",qu),(Str.ofString "default",.none)]) (EP X pins σ Q) X.xe s)
  (hn:x≠"__name__":=by decide) (hdb:(x==("__debug__" : Str))=false:=by decide) (hs:starEach [e] X.env=(false,eval e X.env)::starEach [] X.env:=by rfl) :
  PE X (.Call (.Name x pn) [e] [⟨some "key",lamE,kp⟩,⟨some "default",dE,kp2⟩] pos) (tKw tl tlam r):=by
 intro pins s σ H Q I h
 refine wpAny_Call_Name_kw (CV I hg hm hbm ?_ hn hdb)
 refine callWith_kw (thn ((aj hl aq hs) pos pins s σ H (fun vs H1=>match vs with | [v]=>tlam σ H1 fun qv H2=>r σ v qv H2 Q | _=>False) I h) fun us s1 ⟨vs,H1,I1,r1,q1⟩=>?_) (by rw[hs];rfl) (by rw[hs];rfl)
 cases vs with
 |nil=>exact q1.elim
 |cons v vt =>
  cases vt with
  |cons _ _=>exact q1.elim
  |nil =>
   obtain⟨u,rfl,ru⟩:=vals1 r1
   have q1':tlam σ H1 fun qv H2=>Z2 V.non∧r σ v qv H2 Q:=by
    have e:(fun qv H2=>Z2 V.non∧r σ v qv H2 Q)=fun qv H2=>r σ v qv H2 Q:=by
     funext qv H2
     exact propext ⟨fun h=>h.2,fun h=>⟨rfl,h⟩⟩
    rw[e]
    exact q1
   refine thn ((QH hlam (QH hdE aaE)) pos pins s1 σ H1 (fun ws H2=>match ws with | [qv,qn]=>Z2 qn∧r σ v qv H2 Q | _=>False) I1 q1') fun kus s2 ⟨ws,H2,I2,r2,q2⟩=>?_
   cases ws with
   |nil=>exact q2.elim
   |cons qv wt =>
    cases wt with
    |nil=>exact q2.elim
    |cons qn wt =>
     cases wt with
     |cons _ _=>exact q2.elim
     |nil =>
      obtain⟨qu,qnu,rfl,rqu,rqn⟩:=vals2 r2
      have en:qn=.non:=q2.1
      subst en
      cases (show qnu=Value.none from rqn)
      have hks:(backToKw pos (keywordEach [⟨some (Str.ofString "key"),lamE,kp⟩,⟨some (Str.ofString "default"),dE,kp2⟩] X.env)).filterMap (·.1)=[Str.ofString "key",Str.ofString "default"]:=rfl
      rw[hks,List.zip_cons_cons,List.zip_cons_cons,List.zip_nil_left]
      exact hcall pins s2 σ H2 v u qv qu Q I2 ru rqu q2.2
def S8(te:TE)(k:Nat)(d:Fw)(cl:List (Str×Addr))(dflt:Bool):St→V→V→Hp→VK→Prop:=fun σ v qv H2 Q=>∃l xs q tup kf,v=.ref l∧H2 l=some (.lst xs)∧qv=.ref q∧Hk H2 d cl q∧O3 te k tup kf xs σ H2 ∧
 (xs=[]→dflt=true∧∀H',aY H2 H'→Q .non H')∧∀i x H',xs[i]?=some x→(∀j',j'<xs.length→HT.lexLt (kf j') (kf i)=false)→aY H2 H'→Q x H'
theorem XF(hc:X.calm=true)(hN:X.N.Nodup)(hd:X.A.depth<recursionLimit)(hu:X.A.in1.units<cLine)(L:Wl X d p k)(he:∀(s:Shared) (H:Hp) (L q c':Addr) (cl:List (Str×Addr)),PE (X.lam s H (PySem.W.envX d.qual d.scope L q (.ref c') cl)) d.body te) :
  ∀pins s σ H v u qv qu Q,Inv X pins σ H s→RelV v u→RelV qv qu→S8 te k d (bx X.env.cells d.scope.names []) false σ v qv H Q→wpAny (model X.prog X.w) X.A (call (.builtin "min") [u] [(Str.ofString "key",qu)]) (EP X pins σ Q) X.xe s:=by
 rintro pins s σ H v u qv qu Q I rv rq ⟨l,xs,q,tup,kf,rfl,hl,rfl,il,kb,h0,h1⟩
 cases (show u=Value.ref l from rv)
 cases (show qu=Value.ref q from rq)
 exact R9 (dv:=[]) hc hu I (Q7 hc hN L hd he il kb) hl (O5 _ _) rfl (.inl rfl) (fun e=>absurd (h0 e).1 (by decide)) h1
theorem Uz(hc:X.calm=true)(hN:X.N.Nodup)(hd:X.A.depth<recursionLimit)(hu:X.A.in1.units<cLine)(L:Wl X d p k)(he:∀(s:Shared) (H:Hp) (L q c':Addr) (cl:List (Str×Addr)),PE (X.lam s H (PySem.W.envX d.qual d.scope L q (.ref c') cl)) d.body te) :
  ∀pins s σ H v u qv qu Q,Inv X pins σ H s→RelV v u→RelV qv qu→S8 te k d (bx X.env.cells d.scope.names []) true σ v qv H Q→wpAny (model X.prog X.w) X.A (call (.builtin "min") [u] [(Str.ofString "key",qu),(Str.ofString "default",.none)]) (EP X pins σ Q) X.xe s:=by
 rintro pins s σ H v u qv qu Q I rv rq ⟨l,xs,q,tup,kf,rfl,hl,rfl,il,kb,h0,h1⟩
 cases (show u=Value.ref l from rv)
 cases (show qu=Value.ref q from rq)
 exact R9 (dv:=[.none]) hc hu I (Q7 hc hN L hd he il kb) hl (Ji _ _ _) rfl (.inr rfl) (fun e=>⟨rfl,(h0 e).2⟩) h1
end
end L2
end
section
set_option Elab.async false
set_option linter.all false
set_option maxRecDepth 100000
set_option maxHeartbeats 400000
namespace L2
open PySem PySem.Spec PyProof.Rows
theorem Fb{α β:Type}{f:α→β}:∀{l:List α} {ps:List β},ps.Perm (l.map f)→∃l':List α,l'.Perm l∧l'.map f=ps
 |[],ps,h=>⟨[],.nil,by rw[List.map_nil]at h ⊢;exact(List.perm_nil.mp h).symm⟩
 |a::l,ps,h=>by
  rw[List.map_cons]at h
  have hm:f a∈ps:=h.mem_iff.mpr List.mem_cons_self
  obtain⟨p1,p2,rfl⟩:=List.append_of_mem hm
  have h2:(p1++p2).Perm (l.map f):=List.Perm.cons_inv (List.perm_middle.symm.trans h)
  obtain⟨l',h3,h4⟩:=Fb h2
  obtain⟨l1,l2,rfl,e1,e2⟩:=List.map_eq_append_iff.mp h4
  exact⟨l1++a::l2,List.perm_middle.trans (List.Perm.cons a h3),by rw[List.map_append,List.map_cons,e1,e2]⟩
theorem O1{α β:Type}(da:α)(db:β):∀(as:List α) (bs:List β),as.length=bs.length→as.zip bs=(List.range bs.length).map fun i=>(as.getD i da,bs.getD i db)
 |[],[],_=>rfl
 |a::as,b::bs,h=>by
  rw[List.zip_cons_cons,List.length_cons,List.range_succ_eq_map,List.map_cons,List.map_map,O1 da db as bs (by simpa using h)]
  rfl
 |[],_::_,h=>by simp at h
 |_::_,[],h=>by simp at h
theorem W0:∀a b:List Int,PyProof.Rows.lexLt itemOrd (a.map Sum.inl) (b.map Sum.inl)=HT.lexLt a b
 |[],[]=>rfl
 |[],_::_=>rfl
 |_::_,[]=>rfl
 |x::a,y::b=>by
  rw[List.map_cons,List.map_cons,HT.jH]
  by_cases h:x=y
  ·subst h
   rw[if_pos rfl,lex_self]
   exact W0 a b
  ·rw[if_neg h,lex_diff fun z=>h (Sum.inl.inj z)]
   rfl
theorem NK:∀{vs:List Value} {ns:List Int} (i:Nat),IntsAre vs ns→tupItems (fun _=>false) i vs=some (ns.map Sum.inl)
 |_,_,i,.nil=>rfl
 |_,_,i,.cons n t h=>by
  have ih:=NK (i+1) h
  simp only[tupItems,Bool.false_eq_true,if_false,ih]
  rfl
structure abg(P:Program)(w:World)(s:Shared)(ks:List Value)(kf:Nat→List Int) where
 ky:KeyKind
 kd:SortKind
 cv:List Int→ky.α
 key:∀m,m<ks.length→∀v,ks[m]?=some v→ky.keyOf v=some (cv (kf m))
 lt:∀m n,m<ks.length→n<ks.length→ky.blt (cv (kf m)) (cv (kf n))=HT.lexLt (kf m) (kf n)
 at_:PyProof.Rows.G.LtAt P w s ky kd
 kind:∀(A:Around) (E:Value→Shared→Prop) {Q:SortKind→Shared→Prop},2≤ks.length→Q kd s→wpAny (model P w) A (keyKind' ks.toArray) Q E s
section
variable {X:Cx}{pins:List (Addr×Obj)}{σ:St}{H:Hp}{s:Shared}
theorem Z7{ks:List Value}{kf:Nat→List Int}(h:∀m,m<ks.length→∃i t,ks[m]?=some (.int i t)∧kf m=[i])(P:Program)(w:World)(s:Shared):Nonempty (abg P w s ks kf):=by
 have hi:IntsAre ks ((List.range ks.length).map fun m=>(kf m).headD 0):=Ql (by rw[List.length_map,List.length_range]) fun j v e=>by
  have hj:j<ks.length:=(List.getElem?_eq_some_iff.mp e).1
  obtain⟨i,t,e1,e2⟩:=h j hj
  rw[e]at e1
  refine⟨i,t,?_,Option.some.inj e1⟩
  rw[List.getElem?_map,List.getElem?_range hj,Option.map_some,e2]
  rfl
 refine⟨⟨PyProof.Rows.intKind,oneType',fun l=>l.headD 0,fun m hm v e=>?_,fun m n hm hn=>?_,?_,fun A E Q h2 q=>?_⟩⟩
 ·obtain⟨i,t,e1,e2⟩:=h m hm
  rw[e]at e1
  cases e1
  rw[e2]
  rfl
 ·obtain⟨i,t,e1,e2⟩:=h m hm
  obtain⟨j,u,e3,e4⟩:=h n hn
  rw[e2,e4,Bg]
  rfl
 ·intro A E x y a b Q hx hy q
  cases x<;>simp only[PyProof.Rows.intKind,reduceCtorEq,Option.some.injEq]at hx
  cases y<;>simp only[PyProof.Rows.intKind,reduceCtorEq,Option.some.injEq]at hy
  cases hx;cases hy
  exact PySem.W.kat_lt_int q
 ·rw[ksk_kind (keys:=ks.toArray) (by simpa using hi) (by simpa using h2)]
  exact wpAny_pure q
theorem Z8{ks:List Value}{kf:Nat→List Int}{s:Shared}(h:∀m,m<ks.length→∃a its,ks[m]?=some (.ref a)∧IsTup s.heap a its.toArray∧IntsAre its (kf m)∧kf m≠[])(P:Program)(w:World):Nonempty (abg P w s ks kf):=by
 have htup:∀(ks:List Value) (kf:Nat→List Int),(∀m,m<ks.length→∃a its,ks[m]?=some (.ref a)∧IsTup s.heap a its.toArray∧IntsAre its (kf m)∧kf m≠[])→∃fs,TupsOf s.heap (fun _=>false) ks fs:=by
  intro ks
  induction ks with
  |nil=>intro _ _;exact⟨[],.nil⟩
  |cons v r ih =>
   intro kf h
   obtain⟨fs,hf⟩:=ih (fun m=>kf (m+1)) fun m hm=>by
    obtain⟨a,its,e,r⟩:=h (m+1) (by simpa using hm)
    exact⟨a,its,by simpa using e,r⟩
   obtain⟨a,its,e,⟨o,ho,hc,n,hd⟩,hi,hne⟩:=h 0 (by simp)
   have e:v=.ref a:=by simpa using e
   have hs:∃f i t,its=f::its.tail∧f=.int i t:=by
    generalize hk0:kf 0=k0 at hi hne
    cases hi with
    |nil=>exact absurd rfl hne
    |cons i t _=>exact⟨_,i,t,rfl,rfl⟩
   obtain⟨f,i,t,e2,e3⟩:=hs
   refine⟨f::fs,.cons ⟨a,o,its.toArray,n,e,ho,hc,hd,?_,fun _=>⟨i,t,e3⟩,fun z=>by cases z⟩ hf⟩
   rw[e2]
   rfl
 obtain⟨fs,hfs⟩:=htup ks kf h
 refine⟨⟨PyProof.Rows.G.tupKindC s.heap (fun _=>false),tuples' true,fun l=>l.map Sum.inl,fun m hm v e=>?_,fun m n hm hn=>W0 _ _,PyProof.Rows.G.tupC_ltAt true (PyProof.Rows.G.KeepsTups.refl _),fun A E Q h2 q=>?_⟩⟩
 ·obtain⟨a,its,e1,⟨o,ho,hc,n,hd⟩,hi,_⟩:=h m hm
  rw[e]at e1
  cases e1
  show PyProof.Rows.G.tupKeyC s.heap (fun _=>false) (.ref a)=_
  unfold PyProof.Rows.G.tupKeyC
  have e1:PyProof.Rows.G.isTupObj s.heap (.ref a)=true:=by simp[PyProof.Rows.G.isTupObj,ho,hc]
  rw[if_pos e1]
  simp only[tupKey,ho,hd]
  exact NK 0 hi
 ·exact tup_kind (by rw[PyProof.Rows.G.TupsOf.length hfs];omega) hfs q
theorem abI{tup:Bool}{kf:Nat→List Int}{ys:List V}{ks:List Value}(I:Inv X pins σ H s)(r:Vals ys ks)(h:∀m,m<ys.length→∃y,ys[m]?=some y∧pJ tup y H (kf m))(hne:tup=true→∀m,kf m≠[]):Nonempty (abg X.prog X.w s ks kf):=by
 have hl:=r.length
 cases tup with
 |false =>
  refine Z7 (fun m hm=>?_) X.prog X.w s
  obtain⟨y,ey,i,e1,e2⟩:=h m (by omega)
  obtain⟨u,eu,ru⟩:=r.get ey
  subst e2
  obtain⟨t,e3⟩:=(show ∃t,u=Value.int i t from ru)
  exact⟨i,t,by rw[eu,e3],e1⟩
 |true =>
  refine Z8 (fun m hm=>?_) X.prog X.w
  obtain⟨y,ey,a,e1,e2⟩:=h m (by omega)
  obtain⟨u,eu,ru⟩:=r.get ey
  subst e1
  cases (show u=Value.ref a from ru)
  obtain⟨its,v1,p1,_⟩:=I.tuple (SqT.of (K:=X.K) e2)
  exact⟨a,its,eu,p1,intsAre_of v1,hne rfl m⟩
end
end L2
end
section
set_option Elab.async false
set_option linter.all false
set_option maxRecDepth 100000
set_option maxHeartbeats 400000
namespace L2
open PySem PySem.Spec PyProof.Rows
def DX(kf:Nat→List Int)(n:Nat)(is:List Nat):Prop:=is.Perm (List.range n)∧is.Pairwise fun i j=>HT.lexLt (kf j) (kf i)=false
section
variable {X:Cx}{pins:List (Addr×Obj)}{σ:St}{H:Hp}{s:Shared}
theorem Inv.adopt{a:Addr}{o:HO}{h':Heap}{t':Nat}(I:Inv X pins σ H s)(f:sY X pins H a)(k:∀b u,b≠a→s.heap.get? b=some u→h'.get? b=some u)(hex:∃u,h'.get? a=some u)(new:ie X.prog X.w (upd H a o) h' a o) :
  Inv X pins σ (upd H a o) {s with heap:=h',toks:=t'}:=by
 obtain⟨f0,f1,f2,f3,f4,f5⟩:=f
 have ne:∀b u,H b=some u→b≠a:=fun b u e=>bj e f0
 refine I.step (g':=s.gens) (d':=s.drawn) (ch:=[a]) (fun b hb=>?_) (fun b u _ _ hc e _=>k b u (fun z=>hc (by simp[z])) e) (fun b u _ _ hc e _=>⟨u.slots,k b u (fun z=>hc (by simp[z])) e⟩) (fun b u hc e n=>by rw[aO (fun z=>hc (by simp[z]))];exact n)
  (fun b u hc e=>⟨u,k b u (fun z=>hc (by simp[z])) e⟩) (fun b xs e=>by rw[aO (ne _ _ e)];exact e) (fun b u v e=>by rw[aO (ne _ _ e)];exact e) (fun b ps e=>⟨#[],by rw[aO (ne _ _ e),e];simp⟩) (fun m hm=>?_) (fun b u e=>?_) I.bare
 ·have e:b=a:=by simpa using hb
  subst e
  exact⟨f3,f1,f4,f5⟩
 ·obtain⟨ob,es,ep,ho,r⟩:=hm
  exact⟨ob,es,ep,k _ ob (Ne.symm f1) ho,r⟩
 ·by_cases z:b=a
  ·subst z
   rw[aX]at e
   cases e
   exact new
  ·rw[aO z]at e
   refine(I.hok b u e).stay (fun c v hc q=>k c v ?_ q) (fun c q=>by rw[aO (ne _ _ q)];exact q) fun c xs q=>by rw[aO (ne _ _ q)];exact q
   rcases hc with rfl|hc
   ·exact z
   ·exact ne _ _ hc
theorem Oz{xs:List V}{vs:List Value}(r:Vals xs vs):∀is:List Nat,(∀i∈is,i<xs.length)→Vals (is.map fun i=>xs.getD i .non) (is.map fun i=>vs.getD i .none)
 |[],_=>.nil
 |i::is,h=>by
  have hi:=h i List.mem_cons_self
  have e:xs[i]?=some xs[i]:=List.getElem?_eq_getElem hi
  obtain⟨u,eu,ru⟩:=r.get e
  refine .cons ?_ (Oz r is fun j hj=>h j (List.mem_cons_of_mem _ hj))
  show RelV (xs.getD i .non) (vs.getD i .none)
  rw[List.getD_eq_getElem?_getD,List.getD_eq_getElem?_getD,e,eu]
  exact ru
theorem YQ{ks vs:List Value}{kf:Nat→List Int}{st:SortSt}(D:abg X.prog X.w s ks kf)(hl:ks.length=vs.length)(hp:(arrOf st).Perm (ks.toArray.zip vs.toArray))(hs:SortedToK D.ky (arrOf st) vs.length) :
  ∃is,DX kf vs.length is∧((arrOf st).map (·.2)).toList=is.map fun i=>vs.getD i .none:=by
 have hp':(arrOf st).toList.Perm (ks.zip vs):=by
  have:=Array.perm_iff_toList_perm.mp hp
  rw[ksk_zip]at this
  simpa using this
 rw[O1 .none .none ks vs hl]at hp'
 obtain⟨is,h1,h2⟩:=Fb hp'
 refine⟨is,⟨h1,?_⟩,?_⟩
 ·have hlen:is.length=vs.length:=by rw[h1.length_eq,List.length_range]
  have hsz:(arrOf st).size=vs.length:=by rw[← Array.length_toList,← h2,List.length_map,hlen]
  rw[List.pairwise_iff_getElem]
  intro i j hi hj hij
  have q:=hs i j (Nat.le_of_lt hij) (by omega)
  have kk:∀m (hm:m<is.length),KK D.ky (arrOf st) m=D.cv (kf is[m]):=fun m hm=>by
   have e1:(arrOf st)[m]?=some (ks.getD is[m] .none,vs.getD is[m] .none):=by
    rw[← Array.getElem?_toList,← h2,List.getElem?_map,List.getElem?_eq_getElem hm]
    rfl
   have hm2:is[m]<ks.length:=by
    have:is[m]∈List.range vs.length:=h1.mem_iff.mp (List.getElem_mem hm)
    rw[List.mem_range]at this
    omega
   unfold KK
   rw[e1]
   show(D.ky.keyOf (ks.getD is[m] .none)).getD D.ky.dflt=_
   rw[List.getD_eq_getElem?_getD,List.getElem?_eq_getElem hm2,D.key is[m] hm2 _ (by rw[List.getElem?_eq_getElem hm2];rfl)]
   rfl
  rw[kk i hi,kk j hj]at q
  have q:D.ky.blt (D.cv (kf is[j])) (D.cv (kf is[i]))=false:=q
  have hb:∀m (hm:m<is.length),is[m]<ks.length:=fun m hm=>by
   have:is[m]∈List.range vs.length:=h1.mem_iff.mp (List.getElem_mem hm)
   rw[List.mem_range]at this
   omega
  rw[D.lt _ _ (hb j hj) (hb i hi)]at q
  exact q
 ·rw[Array.toList_map,← h2,List.map_map]
  rfl
theorem YM{a q:Addr}{tup:Bool}{kf:Nat→List Int}{xs:List V}{vs:List Value}{n:Nat}{H0:Hp}{P:PySem.Fin→Shared→Prop}{E:Value→Shared→Prop}(turn:Aq X σ q tup kf xs H0)(hne:tup=true→∀m,kf m≠[])(I:Inv X pins σ H s)(sm:aY H0 H)(fa:sY X pins H a)(ho:s.heap.get? a=some (seqObj "list" vs.toArray n))(rv:Vals xs vs)(hz:xs.length≤sizeLine)
  (h:∀s' H' is,Inv X pins σ (upd H' a (.lst (is.map fun i=>xs.getD i .non))) s'→aY H0 H'→H' a=none→DX kf xs.length is→P (.done (.ret .none)) s'):wpAny (model X.prog X.w) X.A.in1 (ksk_tree a (.ref q) false) P E s:=by
 have hlv:=rv.length
 have hz2:=hz
 rw[sizeLine_eq]at hz2
 unfold ksk_tree
 refine wpAny_bind (listItems_at ho rfl ?_)
 refine wpAny_bind (listUpdate_at ho rfl ?_ (by rw[List.size_toArray,sizeLine_eq];omega) (Nat.zero_le _))
 have s1:=Heap.SameBut.update s.heap a (Obj.mapSeq fun _=>(#[]:Array Value))
 obtain⟨e1,ho1⟩:∃e1,(s.heap.update a (Obj.mapSeq fun _=>(#[]:Array Value))).get? a=some (seqObj "list" #[] e1):=⟨_,get?_update_seq ho fun _=>#[]⟩
 obtain⟨f0,f1,f2,f3,f4,f5⟩:=id fa
 have I1:Inv X pins σ H {s with heap:=s.heap.update a (Obj.mapSeq fun _=>(#[]:Array Value))}:=I.turned (t':=s.toks) (fun b o hb e=>(s1.2 b hb).trans e) f0 f1 f3 f4 f5
 refine wpAny_bind (seqEpoch_at ho1 rfl ?_)
 refine wpAny_bind (wpAny_newTuple ?_ (by show vs.length≤_;rw[sizeLine_eq];omega))
 refine wpAny_bind (wpAny_newList ?_ (Nat.zero_le _))
 refine wpAny_holding ?_
 have I2:Inv X pins σ H {s with heap:=(s.heap.update a (Obj.mapSeq fun _=>(#[]:Array Value))).push (seqObj "tuple" vs.toArray 0)}:=I1.kept (t':=s.toks) fun b o e=>Heap.get?_push_of_some _ e
 have I3:=I2.ade (its:=[]) (ys:=[]) (t':=s.toks) .nil (Nat.zero_le _)
 generalize hkS:((s.heap.update a (Obj.mapSeq fun _=>(#[]:Array Value))).push (seqObj "tuple" vs.toArray 0)).objs.size=kS at I3 ⊢
 have hk0:H kS=none:=by rw[← hkS];exact I2.fresh
 have ho3:(((s.heap.update a (Obj.mapSeq fun _=>(#[]:Array Value))).push (seqObj "tuple" vs.toArray 0)).push {cls:=.type "list",data:=.seq ([]:List Value).toArray}).get? a=some (seqObj "list" #[] e1):=Heap.get?_push_of_some _ (Heap.get?_push_of_some _ ho1)
 have nak:a≠kS:=by
  have h1:a<s.heap.objs.size:=Heap.lt_size ho
  rw[← hkS,Heap.size_push,Heap.size_update]
  exact Nat.ne_of_lt (Nat.lt_succ_of_lt h1)
 have sm3:aY H0 (upd H kS (.lst [])):=sm.trans (jl hk0)
 have fa3:sY X pins (upd H kS (.lst [])) a:=fa.at (by rw[aO nak];exact f0)
 unfold ksk_rest
 refine wpAny_bind (wpAny_rule ?_)
 first
  |rw[List.forIn_toArray]
  |(rw[← Array.forIn_toList];simp only[List.toList_toArray])
  |rw[← Array.forIn_toList]
 refine wpAny_bind (ksk_fold (fun i s'=>∃H' ys,Inv X pins σ H' s'∧aY H0 H'∧sY X pins H' a∧s'.heap.get? a=some (seqObj "list" #[] e1)∧H' kS=some (.lst ys)∧ys.length=i∧∀m,m<i→∃y,ys[m]?=some y∧pJ tup y H' (kf m)) vs 0 _
  ⟨_,[],I3,sm3,fa3,ho3,aX,rfl,fun m hm=>absurd hm (Nat.not_lt_zero _)⟩ ?step ?done)
 case step =>
  rintro j v s' hv ⟨H',ys,I',sm',fa',ho',hkS',hyl,hys⟩
  rw[Nat.zero_add]at hyl hys ⊢
  have hj:j<xs.length:=by have:=(List.getElem?_eq_some_iff.mp hv).1;omega
  have hx:xs[j]?=some xs[j]:=List.getElem?_eq_getElem hj
  obtain⟨u,hu',ru⟩:=rv.get hx
  rw[hv]at hu'
  cases hu'
  have I'':=I'.pinned (fp:=[a]) (fun b hb=>(List.mem_singleton.mp hb)▸fa') (fun b hb=>(List.mem_singleton.mp hb)▸⟨_,ho',fun v z=>by cases z⟩)
  refine wpAny_bind (wpAny_attempt (wpAny_mono (turn j _ v _ s' H' hx ru I'' sm') (fun ku s2 ⟨y,H2,J,ry,smJ,ka⟩=>?_) fun _ _ z=>z.elim))
  obtain⟨p1,p2,_⟩:=J.pin (a,seqObj "list" #[] e1) (List.mem_append_right _ (List.mem_append_right _ (uL (by simp) ho')))
  have J:=J.xQ
  have hkS2:=smJ _ _ hkS'
  obtain⟨z2,its2,n2,rv2,hl2,e2⟩:=J.Ih hkS2
  (try dsimp only)
  refine wpAny_bind (listUpdate_at e2 rfl ?_ (by rw[List.size_toArray];omega) (by rw[Array.size_push,List.size_toArray];omega))
  refine wpAny_pure ⟨rfl,upd H2 kS (.lst (ys++[y])),ys++[y],J.R5 (its':=its2++[ku]) (t':=s2.toks) hkS2 e2 (by simp) (rv2.append (.cons ry .nil)) (by rw[List.length_append,hyl,List.length_singleton,sizeLine_eq];omega),?_,fa'.at ?_,?_,aX,by rw[List.length_append,hyl];rfl,fun m hm=>?_⟩
  ·intro b o e
   have nb:b≠kS:=fun z=>by
    have q0:H0 kS=none:=by
     cases q:H0 kS with
     |none=>rfl
     |some o=>rw[sm _ _ q]at hk0;cases hk0
    rw[z,q0]at e;cases e
   rw[aO nb]
   exact smJ _ _ (sm' _ _ e)
  ·rw[aO nak];exact p2
  ·rw[Heap.get?_update_other s2.heap _ nak.symm];exact p1
  ·have tk:∀{z:V} {l:List Int},pJ tup z H2 l→pJ tup z (upd H2 kS (.lst (ys++[y]))) l:=fun k=>k.upT fun b xs e=>by rw[aO (cB e hkS2 (by intro z;cases z))];exact e
   by_cases em:m=j
   ·subst em
    exact⟨y,by rw[List.getElem?_append_right (by omega),hyl,Nat.sub_self];rfl,tk ka⟩
   ·obtain⟨y',h1,h2⟩:=hys m (by omega)
    exact⟨y',by rw[List.getElem?_append_left (by omega)];exact h1,tk (h2.up smJ)⟩
 case done =>
  rintro s' ⟨H',ys,I',sm',fa',ho',hkS',hyl,hys⟩
  rw[Nat.zero_add]at hyl hys
  obtain⟨zk,ks,nk,rk,hlk,ek⟩:=I'.Ih hkS'
  (try dsimp only)
  refine wpAny_bind (listItems_at ek rfl ?_)
  have hkl:ks.length=vs.length:=by omega
  obtain⟨D⟩:=abI (kf:=kf) I' rk (fun m hm=>hys m (by omega)) hne
  have tail:∀st:SortSt,(arrOf st).Perm (ks.toArray.zip vs.toArray)→SortedToK D.ky (arrOf st) vs.length→failedOf st=none→wpAny (model X.prog X.w) X.A.in1 (ksk_tail a false e1 (.ref kS) st) P E s':=fun st hp hs hf=>by
   obtain⟨is,hsb,hout⟩:=YQ D hkl hp hs
   have hsz:(arrOf st).size=vs.length:=by rw[hp.size_eq,Array.size_zip,List.size_toArray,List.size_toArray,hkl,Nat.min_self]
   unfold ksk_tail
   (try dsimp only)
   refine wpAny_bind (listUpdate_at ek rfl ?_ (by rw[List.size_toArray,hkl,sizeLine_eq];omega) (Nat.zero_le _))
   refine wpAny_bind (wpAny_letGo ?_)
   have I4:=I'.R5 (its':=[]) (ys:=[]) (f:=fun _=>#[]) (t':=s'.toks) hkS' ek rfl .nil (Nat.zero_le _)
   have ho4:(s'.heap.update kS (Obj.mapSeq fun _=>(#[]:Array Value))).get? a=some (seqObj "list" #[] e1):=by rw[Heap.get?_update_other s'.heap _ nak.symm];exact ho'
   refine wpAny_bind (seqEpoch_at ho4 rfl ?_)
   refine wpAny_bind (listUpdate_at ho4 rfl ?_ (Nat.zero_le _) (Nat.le_trans (Nat.le_of_eq (show((arrOf st).map (·.2)).size=vs.length by rw[Array.size_map,hsz])) (by rw[sizeLine_eq];omega)))
   rw[hf]
   simp only[bne_self_eq_false,Bool.false_eq_true,if_false]
   refine wpAny_pure (h _ (upd H' kS (.lst [])) is ?_ ?_ (by rw[aO nak];exact fa'.1) (by rw[hlv];exact hsb))
   ·have f4':sY X pins (upd H' kS (.lst [])) a:=fa'.at (by rw[aO nak];exact fa'.1)
    obtain⟨c2,hc2⟩:∃c2,((s'.heap.update kS (Obj.mapSeq fun _=>(#[]:Array Value))).update a (Obj.mapSeq fun _=>(arrOf st).map (·.2))).get? a=some (seqObj "list" ((arrOf st).map (·.2)) c2):=⟨_,get?_update_seq ho4 fun _=>(arrOf st).map (·.2)⟩
    have hin:∀i∈is,i<xs.length:=fun i hi=>by
     have:=hsb.1.mem_iff.mp hi
     rw[List.mem_range]at this
     omega
    refine I4.adopt (t':=s'.toks) f4' (fun b u hb e=>(Heap.get?_update_other _ _ (Ne.symm hb)).trans e) ⟨_,hc2⟩ ⟨?_,is.map (fun i=>vs.getD i .none),c2,Oz rv is hin,?_⟩
    ·rw[List.length_map,hsb.1.length_eq,List.length_range]
     omega
    ·rw[hc2]
     have:(arrOf st).map (·.2)=(is.map fun i=>vs.getD i .none).toArray:=by rw[← hout,Array.toArray_toList]
     rw[this]
   ·intro b o e
    have nb:b≠kS:=fun z=>by
     have q0:H0 kS=none:=by
      cases q:H0 kS with
      |none=>rfl
      |some o=>rw[sm _ _ q]at hk0;cases hk0
     rw[z,q0]at e;cases e
    rw[aO nb]
    exact sm' _ _ e
  unfold ksk_end
  (try dsimp only)
  simp only[Bool.false_eq_true,if_false]
  by_cases h2:vs.toArray.size<2
  ·rw[if_pos h2,if_pos h2]
   refine wpAny_bind (wpAny_pure ?_)
   rw[StateT.run_pure]
   refine wpAny_bind (wpAny_pure ?_)
   (try dsimp only)
   refine tail (SortSt.mk' general' (ks.toArray.zip vs.toArray) #[] 7 none) (Array.Perm.refl _) ?_ rfl
   intro i j hij hj
   rw[List.size_toArray]at h2
   have:i=j:=by omega
   subst this
   exact KeyOrd.kle_refl _
  ·rw[if_neg h2,if_neg h2]
   rw[List.size_toArray]at h2
   refine wpAny_bind (D.kind _ _ (by omega) ?_)
   have hks:KeysOf D.ky (ks.toArray.zip vs.toArray):=fun p hp=>by
    rw[ksk_zip]at hp
    have hp:p∈ks.zip vs:=by simpa using hp
    obtain⟨m,hm,em⟩:=List.getElem_of_mem (List.of_mem_zip hp).1
    exact⟨_,D.key m hm p.1 (by rw[List.getElem?_eq_getElem hm,em])⟩
   have hzs:(ks.toArray.zip vs.toArray).size=vs.length:=by rw[Array.size_zip,List.size_toArray,List.size_toArray,hkl,Nat.min_self]
   refine wpAny_bind (wpAny_mono (PyProof.Rows.G.wpS_sortRunsSt (κ:=D.ky) (kd:=D.kd) (a₀:=ks.toArray.zip vs.toArray) (st:=SortSt.mk' D.kd (ks.toArray.zip vs.toArray) #[] 7 none)
    (Q:=fun _ st'=>(arrOf st').Perm (ks.toArray.zip vs.toArray)∧failedOf st'=none∧SortedToK D.ky (arrOf st') (ks.toArray.zip vs.toArray).size)
    D.at_ hks ⟨Array.Perm.refl _,rfl,rfl⟩ rfl (Stable.refl _) (by rw[hzs];omega) fun st' a1 a2 a3 a4=>⟨a1,a2,a3⟩) ?_ fun _ _ e=>e)
   rintro⟨⟨⟩,st'⟩ s2 ⟨rfl,hp,hf,hs⟩
   (try dsimp only)
   rw[hzs]at hs
   exact tail st' hp hs hf
end
end L2
end
section
set_option Elab.async false
set_option linter.all false
set_option maxRecDepth 100000
set_option maxHeartbeats 400000
namespace L2
open PySem PySem.Spec PyProof.Rows
def VP(te:TE)(k:Nat)(d:Fw)(cl:List (Str×Addr)):St→V→V→Hp→VK→Prop:=fun σ v qv H2 Q=>∃l xs q tup kf,v=.ref l∧H2 l=some (.lst xs)∧qv=.ref q∧Hk H2 d cl q∧O3 te k tup kf xs σ H2∧(tup=true→∀m,kf m≠[]) ∧
 ∀is D H',DX kf xs.length is→aY H2 H'→H2 D=none→H' D=some (.lst (is.map fun i=>xs.getD i .non))→Q (.ref D) H'
section
variable {X:Cx}{d:Fw}{p:Str}{k:Nat}{te:TE}
theorem UG(hc:X.calm=true)(hN:X.N.Nodup)(hd:X.A.in1.depth<recursionLimit)(L:Wl X d p k)(he:∀(s:Shared) (H:Hp) (L q c':Addr) (cl:List (Str×Addr)),PE (X.in1.lam s H (PySem.W.envX d.qual d.scope L q (.ref c') cl)) d.body te) :
  ∀pins s σ H v u qv qu Q,Inv X pins σ H s→RelV v u→RelV qv qu→VP te k d (bx X.env.cells d.scope.names []) σ v qv H Q→wpAny (model X.prog X.w) X.A (call (.builtin "sorted") [u] [(Str.ofString "key",qu)]) (EP X pins σ Q) X.xe s:=by
 rintro pins s σ H v u qv qu Q I rv rq ⟨l,xs,q,tup,kf,rfl,hl,rfl,il,kb,hne,h⟩
 cases (show u=Value.ref l from rv)
 cases (show qu=Value.ref q from rq)
 obtain⟨vs,lrv,lp,hz⟩:=I.list (SqL.of (K:=X.K) hl)
 have hlv:=lrv.length
 refine call_function_entry_kw kind_sorted plain_sorted entry_sorted (ksk_s1 _ _) ?_
 unfold Builtin.«sorted»
 refine wpAny_bind (m:=checkCount "sorted" 1 1 _) (wpAny_pure ?_)
 refine wpAny_bind (collect_list lp.isList ?_ (by omega))
 refine wpAny_bind (wpAny_newList ?_ (by omega))
 have hsz:((s.heap.push (seqObj "list" #[] 0)).update s.heap.objs.size (Obj.mapSeq (·++vs.toArray))).objs.size=s.heap.objs.size+1:=by
  rw[Heap.size_update,size_push']
 have hoL:(((s.heap.push (seqObj "list" #[] 0)).update s.heap.objs.size (Obj.mapSeq (·++vs.toArray))).push (seqObj "list" vs.toArray 0)).get? (s.heap.objs.size+1)=some (seqObj "list" vs.toArray 0):=by
  rw[← hsz];exact Heap.get?_push_size _ rfl
 have keep:∀b o,s.heap.get? b=some o→(((s.heap.push (seqObj "list" #[] 0)).update s.heap.objs.size (Obj.mapSeq (·++vs.toArray))).push (seqObj "list" vs.toArray 0)).get? b=some o:=fun b o q=>by
  have hlt:b<s.heap.objs.size:=Heap.lt_size q
  rw[Heap.get?_push_ne _ _ _ (by rw[hsz];exact Nat.ne_of_lt (Nat.lt_succ_of_lt hlt)),Heap.get?_update_ne _ _ _ _ (Nat.ne_of_lt hlt),Heap.get?_push_ne _ _ _ (Nat.ne_of_lt hlt)]
  exact q
 show wpAny _ _ _ _ _ {s with heap:=((s.heap.push (seqObj "list" #[] 0)).update s.heap.objs.size (Obj.mapSeq (·++vs.toArray))).push (seqObj "list" vs.toArray 0)}
 rw[hsz]
 have I1:Inv X pins σ H {s with heap:=((s.heap.push (seqObj "list" #[] 0)).update s.heap.objs.size (Obj.mapSeq (·++vs.toArray))).push (seqObj "list" vs.toArray 0)}:=I.kept (t':=s.toks) keep
 have hDn:H (s.heap.objs.size+1)=none:=I.hok.fresh (Nat.le_succ _)
 have fD:sY X pins H (s.heap.objs.size+1):=I.X5 (Nat.le_succ _) hDn
 have turn:Aq X.in1 σ q tup kf xs H:=Q7 (X:=X.in1) hc hN ⟨L.ok,L.loc,L.cell,L.co,L.gen,L.bind⟩ hd he il kb
 refine wpAny_bind (wpAny_holding (wpAny_call_entry_kw slot_list_sort ⟨_,hoL,rfl⟩ entry_list_sort ?body (ksk_l1 _ _)))
 case body =>
  show wpAny (model X.prog X.w) X.in1.A.in1 (Builtin.«list.sort» ⟨[.ref (s.heap.objs.size+1)],[(Str.ofString "key",.ref q)]⟩) _ _ _
  rw[ksk_t1]
  refine YM (X:=X.in1) (pins:=pins) turn hne I1.in1 (aY.refl _) fD hoL lrv hz fun s' H' is J sm hn hs=>⟨_,rfl,?_⟩
  have J':=Inv.ad1 I.ok J
  refine wpAny_pure ⟨_,rfl,.ref (s.heap.objs.size+1),_,J',rfl,h is _ _ hs ?_ hDn aX⟩
  intro b o e
  rw[aO (bj e hDn)]
  exact sm _ _ e
end
end L2
end
section
set_option Elab.async false
set_option linter.all false
set_option maxRecDepth 100000
set_option maxHeartbeats 400000
namespace L2
open PySem PySem.Spec PyProof.Rows
structure Fx(X:Cx)(P:Addr)(qual:Str):Prop where
 code:∃c,X.env.code=.ref c∧∀h,X.K.In h→PySem.W.CodeHd h c P
 bm:∃bm o,X.mg "__builtins__" = some (.ref bm)∧bm≠builtinsNs∧bm≠mainGlobals∧X.base.get? bm=some o∧o.cls=.type "module"∧o.dict=some builtinsNs∧o.data=.plain
 qual:X.env.qual++"<lambda>" = qual
section
variable {X:Cx}{P:Addr}{qual:Str}{params:Arguments}{body:Expr}{scope:Scope}{lpos pn pos kp kp2:Pos}{e dE:Expr}{p:Str}{k:Nat}{tl te:TE}
theorem QF{own:List (Str×Nat)}(L:Fx X P qual)(ok:wQ X.N X.env.scope scope own)(hdef:defaultsOf params X.env=([],[])):PE X (.Lambda params body scope lpos) (Wf P ⟨qual,params,body,scope⟩ (bx X.env.cells scope.names [])) :=
 let ⟨_,h1,h2⟩:=L.code
 adq ok h1 h2 L.bm L.qual hdef
theorem abY(p:Str)(k:Nat)(hc:X.calm=true)(hN:X.N.Nodup)(hr:X.A.depth<recursionLimit∧X.A.in1.units<cLine)(L:Fx X P qual)(hg:Gl X "min")(hm:X.mg "min" = none)(hbm:bootBuiltins "min" = some (.builtin "min"))(hl:PE X e tl)
  (ok:wQ X.N X.env.scope scope [(p,k)]) (he:∀(s:Shared) (H:Hp) (L q c':Addr) (cl:List (Str×Addr)),PE (X.lam s H (PySem.W.envX qual scope L q (.ref c') cl)) body te)
  (hdef:defaultsOf params X.env=([],[]):=by rfl) (hloc:scope.names.lookup p=some .local:=by rfl) (hcell:∀y∈scope.names,y.2≠.cell:=by decide +kernel) (hco:scope.isCoroutine=false:=by rfl) (hgen:scope.isGenerator=false:=by rfl)
  (hbind:∀(pm cdv ct:Value) (cl:List (Str×Addr)) (v:Value),bindArgs (PySem.W.kla_fn "<lambda>" qual params body scope cl pm cdv ct) ⟨[v],[]⟩=pure [(p,v)]:=by intros;rfl) (hs:starEach [e] X.env=(false,eval e X.env)::starEach [] X.env:=by rfl) :
  PE X (.Call (.Name "min" pn) [e] [⟨some "key",.Lambda params body scope lpos,kp⟩] pos) (tKw tl (Wf P ⟨qual,params,body,scope⟩ (bx X.env.cells scope.names [])) (S8 te k ⟨qual,params,body,scope⟩ (bx X.env.cells scope.names []) false)) :=
 aay hg hm hbm hl (QF L ok hdef) (XF (d:=⟨qual,params,body,scope⟩) hc hN hr.1 hr.2 ⟨ok,hloc,hcell,hco,hgen,hbind⟩ he) (hs:=hs)
theorem aaB(p:Str)(k:Nat)(hc:X.calm=true)(hN:X.N.Nodup)(hr:X.A.depth<recursionLimit∧X.A.in1.units<cLine)(L:Fx X P qual)(hg:Gl X "min")(hm:X.mg "min" = none)(hbm:bootBuiltins "min" = some (.builtin "min"))(hl:PE X e tl)(hdE:PE X dE (tC .non))
  (ok:wQ X.N X.env.scope scope [(p,k)]) (he:∀(s:Shared) (H:Hp) (L q c':Addr) (cl:List (Str×Addr)),PE (X.lam s H (PySem.W.envX qual scope L q (.ref c') cl)) body te)
  (hdef:defaultsOf params X.env=([],[]):=by rfl) (hloc:scope.names.lookup p=some .local:=by rfl) (hcell:∀y∈scope.names,y.2≠.cell:=by decide +kernel) (hco:scope.isCoroutine=false:=by rfl) (hgen:scope.isGenerator=false:=by rfl)
  (hbind:∀(pm cdv ct:Value) (cl:List (Str×Addr)) (v:Value),bindArgs (PySem.W.kla_fn "<lambda>" qual params body scope cl pm cdv ct) ⟨[v],[]⟩=pure [(p,v)]:=by intros;rfl) (hs:starEach [e] X.env=(false,eval e X.env)::starEach [] X.env:=by rfl) :
  PE X (.Call (.Name "min" pn) [e] [⟨some "key",.Lambda params body scope lpos,kp⟩,⟨some "default",dE,kp2⟩] pos) (tKw tl (Wf P ⟨qual,params,body,scope⟩ (bx X.env.cells scope.names [])) (S8 te k ⟨qual,params,body,scope⟩ (bx X.env.cells scope.names []) true)) :=
 adp hg hm hbm hl (QF L ok hdef) hdE (Uz (d:=⟨qual,params,body,scope⟩) hc hN hr.1 hr.2 ⟨ok,hloc,hcell,hco,hgen,hbind⟩ he) (hs:=hs)
theorem SN(p:Str)(k:Nat)(hc:X.calm=true)(hN:X.N.Nodup)(hr:X.A.in1.depth<recursionLimit)(L:Fx X P qual)(hg:Gl X "sorted")(hm:X.mg "sorted" = none)(hbm:bootBuiltins "sorted" = some (.builtin "sorted"))(hl:PE X e tl)
  (ok:wQ X.N X.env.scope scope [(p,k)]) (he:∀(s:Shared) (H:Hp) (L q c':Addr) (cl:List (Str×Addr)),PE (X.in1.lam s H (PySem.W.envX qual scope L q (.ref c') cl)) body te)
  (hdef:defaultsOf params X.env=([],[]):=by rfl) (hloc:scope.names.lookup p=some .local:=by rfl) (hcell:∀y∈scope.names,y.2≠.cell:=by decide +kernel) (hco:scope.isCoroutine=false:=by rfl) (hgen:scope.isGenerator=false:=by rfl)
  (hbind:∀(pm cdv ct:Value) (cl:List (Str×Addr)) (v:Value),bindArgs (PySem.W.kla_fn "<lambda>" qual params body scope cl pm cdv ct) ⟨[v],[]⟩=pure [(p,v)]:=by intros;rfl) (hs:starEach [e] X.env=(false,eval e X.env)::starEach [] X.env:=by rfl) :
  PE X (.Call (.Name "sorted" pn) [e] [⟨some "key",.Lambda params body scope lpos,kp⟩] pos) (tKw tl (Wf P ⟨qual,params,body,scope⟩ (bx X.env.cells scope.names [])) (VP te k ⟨qual,params,body,scope⟩ (bx X.env.cells scope.names []))) :=
 aay hg hm hbm hl (QF L ok hdef) (UG (d:=⟨qual,params,body,scope⟩) hc hN hr ⟨ok,hloc,hcell,hco,hgen,hbind⟩ he) (hs:=hs)
end
def Gr(P:Addr)(qual:Str)(H H':Hp):Prop:=(∀b o,H b=some o→b≠P→H' b=some o)∧aca H H' P qual
theorem Gr.same{P:Addr}{qual:Str}{H H1 H2:Hp}(g:Gr P qual H H1)(s:aY H1 H2):Gr P qual H H2:=⟨fun b o e n=>s _ _ (g.1 b o e n),fun ps e t=>let ⟨ps',a,b,c⟩:=g.2 ps e t;⟨ps',s _ _ a,b,fun pos cv z=>(c pos cv z).imp id fun⟨d,h1,h2,h3⟩=>⟨d,h1,h2,s _ _ h3⟩⟩⟩
theorem Gr.pre{P:Addr}{qual:Str}{H H1 H2:Hp}(s:aY H H1)(g:Gr P qual H1 H2):Gr P qual H H2:=⟨fun b o e n=>g.1 b o (s _ _ e) n,fun ps e t=>let ⟨ps',a,b,c⟩:=g.2 ps (s _ _ e) t;⟨ps',a,b,fun pos cv z=>(c pos cv z).imp id fun⟨d,h1,h2,h3⟩=>⟨d,h1,s.free h2,h3⟩⟩⟩
theorem Xm.up{P:Addr}{qual:Str}{H H':Hp}(h:Xm H P qual)(s:aY H H'):Xm H' P qual:=let ⟨ps,e,t,k⟩:=h;⟨ps,s _ _ e,t,fun pos cv z=>let ⟨c,e1,e2⟩:=k pos cv z;⟨c,e1,s _ _ e2⟩⟩
section
variable {P:Addr}{d:Fw}{cl:List (Str×Addr)}{tl te:TE}{k:Nat}{σ:St}{H:Hp}{xs:List V}{Q:VK}{tup:Bool}{kf:Nat→List Int}{dflt:Bool}
def But(P:Addr)(H:Hp):Hp:=fun b=>if b=P then none else H b
theorem Zi{H H':Hp}(h:∀b o,H b=some o→b≠P→H' b=some o):aY (But P H) H':=fun b o e=>by
 unfold But at e
 by_cases z:b=P
 ·rw[if_pos z]at e;cases e
 ·rw[if_neg z]at e;exact h b o e z
theorem xU{b:Addr}{o:HO}(e:H b=some o)(n:b≠P):But P H b=some o:=by unfold But;rw[if_neg n];exact e
theorem WX{H H1 H2:Hp}(s1:aY H H1)(keep:∀b o,H1 b=some o→b≠P→H2 b=some o)(hk:∀i x,xs[i]?=some x→EvP te ((wipe σ [k]).set k (some x)) (But P H) (fun y H4=>pJ tup y H4 (kf i))):O3 te k tup kf xs σ H2:=fun i x hx H3 s3 =>
 hk i x hx H3 ((Zi fun b o e n=>keep b o (s1 _ _ e) n).trans s3) _ fun y H4 s4 ka=>⟨s4,ka⟩
theorem abb(hl:EvL tl σ H xs)(ht:Xm H P d.qual)(hk:∀i x,xs[i]?=some x→EvP te ((wipe σ [k]).set k (some x)) (But P H) (fun y H4=>pJ tup y H4 (kf i)))
  (h0:xs=[]→dflt=true∧∀H',Gr P d.qual H H'→Q .non H') (h1:∀i x H',xs[i]?=some x→(∀j',j'<xs.length→HT.lexLt (kf j') (kf i)=false)→Gr P d.qual H H'→Q x H'):tKw tl (Wf P d cl) (S8 te k d cl dflt) σ H Q :=
 hl H (aY.refl _) _ fun v H1 s1 ⟨l,e,hl1⟩=>⟨ht.up s1,fun q H2 keep hq tg il=>by
  obtain⟨ps,hps,_⟩:=ht.up s1
  have g:Gr P d.qual H H2:=Gr.pre s1 ⟨keep,tg⟩
  exact⟨l,xs,q,tup,kf,e,keep _ _ hl1 (cB hl1 hps (by intro z;cases z)),rfl,il,WX s1 keep hk,fun z=>⟨(h0 z).1,fun H' s'=>(h0 z).2 H' (g.same s')⟩,fun i x H' hx hm s'=>h1 i x H' hx hm (g.same s')⟩⟩
theorem Xk(hl:EvL tl σ H xs)(ht:Xm H P d.qual)(hk:∀i x,xs[i]?=some x→EvP te ((wipe σ [k]).set k (some x)) (But P H) (fun y H4=>pJ tup y H4 (kf i)))(hne:tup=true→∀m,kf m≠[])
  (h1:∀is D H',DX kf xs.length is→Gr P d.qual H H'→H D=none→H' D=some (.lst (is.map fun i=>xs.getD i .non))→Q (.ref D) H'):tKw tl (Wf P d cl) (VP te k d cl) σ H Q :=
 hl H (aY.refl _) _ fun v H1 s1 ⟨l,e,hl1⟩=>⟨ht.up s1,fun q H2 keep hq tg il=>by
  obtain⟨ps,hps,_⟩:=ht.up s1
  have g:Gr P d.qual H H2:=Gr.pre s1 ⟨keep,tg⟩
  refine⟨l,xs,q,tup,kf,e,keep _ _ hl1 (cB hl1 hps (by intro z;cases z)),rfl,il,WX s1 keep hk,hne,fun is D H' hs s' hD hD'=>h1 is D H' hs (g.same s') ?_ hD'⟩
  cases z:H D with
  |none=>rfl
  |some o =>
   by_cases n:D=P
   ·obtain⟨ps',hp',_⟩:=tg ps hps (by obtain⟨ps2,hp2,t2,_⟩:=ht.up s1;rw[hps]at hp2;cases hp2;exact t2)
    rw[n,hp']at hD;cases hD
   ·rw[keep D o (s1 _ _ z) n]at hD;cases hD⟩
end
section
variable {P:Program}{w:World}{K:PySem.W.Frag}{mg:Str→Option Value}{base:Heap}
theorem Fun.okC{x qual:Str}{st:Stmt}{f:Addr}{fd:FuncData}{N ps:List Str}{k:Nat}{sp:Sp}(F:Fun K x qual st f fd)(S:aG N ps (aA st))(len:∀vs H Q E,sp vs H Q E→vs.length=ps.length)
  (hbody:∀(A:Around) (outer:List Env) (s:Shared) (H:Hp) (vs:List V) (Q:VK) (E:XK),jx k (A.deeper (envOfC qual (aA st) s.heap.objs.size f fd.code))→sp vs H Q E →
   ∃t,PSs (Mr CX0 P w K mg base N qual (aA st) f fd.code A outer s H E).nox (iu st) t∧t {nx:=fun _ H'=>Q .non H',rt:=Q} (start N vs) H):bD P w K mg base CX0 (k+1) f fd ps sp:=by
 obtain⟨oc,od,kV,doc,pm,an,cdv,ct,osl,rfl,lk,hcd⟩:=F.ex
 refine aci lk hcd S len fun A outer s H vs Q E hr hsp=>?_
 obtain⟨t,h,q⟩:=hbody A outer s H vs Q E hr hsp
 exact⟨t,h.nox,q⟩
end
end L2
end
section
set_option Elab.async false
set_option linter.all false
set_option maxRecDepth 100000
set_option maxHeartbeats 1000000
namespace Jq
open PySem PySem.Spec PyProof.Rows L2
structure LK{K:PySem.W.Frag}{mg:Str→Option Value}(T:Txt K mg)(base:Heap):Prop where
 ne:T.mQ≠T.mR
 c1:∃c,T.dU.fd.code=.ref c∧∀h,K.In h→PySem.W.CodeHd h c T.mQ
 c2:∃c,T.fJ.fd.code=.ref c∧∀h,K.In h→PySem.W.CodeHd h c T.mR
 bm:∃bm o,mg "__builtins__" = some (.ref bm)∧bm≠builtinsNs∧bm≠mainGlobals∧base.get? bm=some o∧o.cls=.type "module"∧o.dict=some builtinsNs∧o.data=.plain
 sh:yU K mg
theorem aax{X:Cx}{K:PySem.W.Frag}{o e:Expr}{to:TE}{t:TA}{apos cpos:Pos}(ho:PE X o to)(ha:PA X [e] t)(hK:X.K=K:=by rfl)(hbase:attributeBase o "index" X.env (eval o X.env)=eval o X.env:=by rfl)
  (hfew:((backTo cpos (starEach [e] X.env)).all (fun x=>!x.1)&&(backToKw cpos (keywordEach [] X.env)).all (fun x=>x.1.isSome)
   && decide ([e].length+([]:List Keyword).length+(if ([]:List Keyword).isEmpty then 0 else 1)<30))=true:=by rfl)
  (hline:(apos.endLine==cpos.line)=true:=by rfl) (hs:starEach [e] X.env=(false,eval e X.env)::starEach [] X.env:=by rfl) (hplain:(backTo cpos (starEach [] X.env)).any (·.1)=false:=by rfl) :
  PE X (.Call (.Attribute o "index" apos) [e] [] cpos) (tBM K "list" (VM K) to t):=by
 subst hK
 exact N6 PySem.F.plainAttrs_list PySem.F.slot_list_index PySem.F.type_list_index aah ho ha hbase hfew hline hs hplain
section
variable {P:Program}{w:World}{K:PySem.W.Frag}{mg:Str→Option Value}{base:Heap}
variable {σ:St}{H:Hp}{ta tb tc td:TE}{a:Addr}{j:Vbbhaj.Job}{A:Ad}{s:Vbbhaj.State}{T:Txt K mg}{X:Addr→Prop}{D:Ends}
theorem cT.but{p:Addr}{ps:Array Value}(h:cT T H a j)(hp:H p=some (.tbl ps)):cT T (But p H) a j:=by
 obtain⟨dx,na,ta,e,n,t⟩:=h
 have nn:∀{b:Addr} {o:HO},H b=some o→o≠.tbl ps→But p H b=some o:=fun e ne=>xU e (cB e hp ne)
 exact⟨dx,na,ta,nn e (by intro z;cases z),nn n (by intro z;cases z),t.up' (fun b xs e=>nn e (by intro z;cases z)) fun b xs e=>nn e (by intro z;cases z)⟩
theorem Ow{p p2:Addr}{qual q2:Str}{G G':Hp}(h:TabAt G p2 q2)(hn:p2≠p)(hp:∃ps,G p=some (.tbl ps))(k:∀b o,G b=some o→b≠p→G' b=some o):TabAt G' p2 q2:=by
 obtain⟨ps,e,t,c⟩:=h
 obtain⟨ps0,e0⟩:=hp
 exact⟨ps,k _ _ e hn,t,fun pos cv z=>let ⟨d,e1,e2⟩:=c pos cv z;⟨d,e1,k _ _ e2 (cB e2 e0 (by intro z;cases z))⟩⟩
theorem Ov{p:Addr}{qual:Str}{X:Addr→Prop}{H H':Hp}(hX:∀b,X b→H b≠none)(h:TabAt (hid X H) p qual)(g:Gr p qual H H'):TabAt (hid X H') p qual:=by
 obtain⟨ps,e,t,c⟩:=h
 obtain⟨np,e'⟩:=bM e
 obtain⟨ps',e1,t1,c1⟩:=g.2 ps e' t
 refine⟨ps',by rw[b_ np];exact e1,t1,fun pos cv z=>?_⟩
 rcases c1 pos cv z with z|⟨d,h1,h2,h3⟩
 ·obtain⟨d,h1,h2⟩:=c pos cv z
  obtain⟨nd,h2'⟩:=bM h2
  exact⟨d,h1,by rw[b_ nd];exact g.1 _ _ h2' (cB h2' e' (by intro z;cases z))⟩
 ·exact⟨d,h1,by rw[b_ fun q=>hX d q h2];exact h3⟩
theorem Rep.but{G G':Hp}{p:Addr}(h:Rep T G A s)(hp:∃ps,G p=some (.tbl ps))(k:∀b o,G b=some o→b≠p→G' b=some o)(ht:Jf T G'):Rep T G' A s:=by
 obtain⟨ps,hp⟩:=hp
 have nn:∀{b:Addr} {o:HO},G b=some o→o≠.tbl ps→G' b=some o:=fun e ne=>k _ _ e (cB e hp ne)
 refine⟨?_,nn h.jobs (by intro z;cases z),nn h.lim (by intro z;cases z),nn h.clo (by intro z;cases z),nn h.ini (by intro z;cases z),h.js,h.is,fun q hq=>?_,fun q hq=>?_,h.ndj,h.ndi,h.dd,h.srt,h.few,ht⟩
 ·obtain⟨dx,e⟩:=h.brd
  exact⟨dx,nn e (by intro z;cases z)⟩
 ·obtain⟨dx,na,ta,e,n,t⟩:=h.job q hq
  exact⟨dx,na,ta,nn e (by intro z;cases z),nn n (by intro z;cases z),t.up' (fun b xs e=>nn e (by intro z;cases z)) fun b xs e=>nn e (by intro z;cases z)⟩
 ·obtain⟨dx,ca,e,n⟩:=h.int q hq
  exact⟨dx,ca,nn e (by intro z;cases z),nn n (by intro z;cases z)⟩
theorem RX.gr{H H':Hp}{p:Addr}{qual:Str}(L:LK T base)(h:RX T X H A s)(g:Gr p qual H H')(hp:(p=T.mQ∧qual = "chosen_job.<locals>.<lambda>")∨(p=T.mR∧qual = "tell_order.<locals>.<lambda>")):RX T X H' A s:=by
 have kk:∀b o,hid X H b=some o→b≠p→hid X H' b=some o:=fun b o e n=>by
  obtain⟨nb,e'⟩:=bM e
  rw[b_ nb]
  exact g.1 _ _ e' n
 obtain⟨t1,t2⟩:=id h.r.tabs
 have hh:∃ps,hid X H p=some (.tbl ps):=by
  rcases hp with ⟨rfl,_⟩|⟨rfl,_⟩
  ·obtain⟨ps,e,_⟩:=t1;exact⟨ps,e⟩
  ·obtain⟨ps,e,_⟩:=t2;exact⟨ps,e⟩
 refine⟨h.r.but hh kk ?_,fun b hb e=>?_⟩
 ·rcases hp with ⟨rfl,rfl⟩ | ⟨rfl,rfl⟩
  ·exact⟨Ov h.x t1 g,Ow (qual:="") t2 L.ne.symm hh kk⟩
  ·exact⟨Ow (qual:="") t1 L.ne hh kk,Ov h.x t2 g⟩
 ·cases q:H b with
  |none=>exact h.x b hb q
  |some o =>
   by_cases n:b=p
   ·obtain⟨ps,e2⟩:=hh
    rw[n]at hb
    exact(bM e2).1 hb
   ·rw[g.1 _ _ q n]at e;cases e
theorem J4{H H':Hp}{p:Addr}{qual:Str}{ps:Array Value}(g:Gr p qual H H')(hp:H p=some (.tbl ps)):Fix H H':=fun b o e f=>g.1 b o e fun z=>by
 rw[z,hp]at e;cases e;cases f
def aaU(T:Txt K mg):Sp:=fun vs H Q _=>∃X A s a x l,vs=[.ref A.b,.ref a,.ref l]∧RX T X H A s∧Inv s∧nJ T H a x∧x.classes.length≤8∧H l=some (.lst (refs (A.L.filter fun q=>Vbbhaj.free s x q.2))) ∧
 ∀v H',Fix H H'→RX T X H' A s→((Vbbhaj.chosen s x=none∧v=.non)∨∃b j,Vbbhaj.chosen s x=some j∧(b,j)∈A.L∧v=.ref b)→Q v H'
theorem Wg{p b:Addr}{ps:Array Value}{o:HO}(hp:H p=some (.tbl ps))(e:H b=some o)(n:o≠.tbl ps):But p H b=some o:=xU e (cB e hp n)
theorem Wx{u:TA}{xs:List V}(h:Bs u σ H xs)(hl:xs.length≤sizeLine):EvP (aeh u) σ H (fun v H'=>∃p,v=.ref p∧H' p=some (.tup xs)):=fun H1 s Q k =>
 h H1 s _ fun us H2 s2 e=>by
  subst e
  exact⟨hl,fun p hp=>k _ _ (s2.trans (jl hp)) ⟨p,rfl,aX⟩⟩
theorem Zx{cs:List Nat}{c:Nat}(ha:EvL ta σ H (cs.map fun n:Nat=>V.int n))(hb:Ev tb σ H (.int c))(hc:c∈cs):Ev (tBM K "list" (VM K) ta (bw tb eV)) σ H (.int (ix cs c)):=fun H1 s1 Q k =>
 ha H1 s1 _ fun v H2 s2 ⟨l,e,hl⟩=>by
  subst e
  refine⟨.inl ⟨rfl,_,SqL.of hl⟩,hb H2 (s1.trans s2) _ fun y H3 s3 ey=>?_⟩
  subst ey
  have hlt:=adY hc
  have hat:cs[ix cs c]?=some c:=by
   rw[List.getElem?_eq_getElem hlt]
   have:=List.findIdx_getElem (p:=fun x=>x==c) (w:=hlt)
   exact congrArg some (beq_iff_eq.mp this)
  refine⟨l,_,.int c,ix cs c,.int c,rfl,rfl,SqL.of (s3 _ _ hl),rfl,by rw[List.all_map];simp[t_],by rw[List.getElem?_map,hat];rfl,by simp[eqV],fun m z hm hz=>?_,k _ H3 (s2.trans s3) rfl⟩
  rw[List.getElem?_map]at hz
  cases q:cs[m]? with
  |none=>rw[q]at hz;cases hz
  |some c' =>
   rw[q]at hz
   cases hz
   have hml:m<cs.length:=(List.getElem?_eq_some_iff.mp q).1
   have:=List.not_of_lt_findIdx (p:=fun x=>x==c) hm
   have e2:cs[m]=c':=(List.getElem?_eq_some_iff.mp q).2
   rw[e2]at this
   have ne:c'≠c:=by simpa using this
   simp[eqV]
   omega
theorem aer(a1 r1 n1 a2 r2 n2:Int):HT.lexLt [a1,-r1,n1] [a2,-r2,n2]=(decide (a1<a2)||(decide (a1=a2)&&(decide (r2<r1)||(decide (r1=r2)&&decide (n1<n2))))):=by
 rw[HT.jH,HT.jH,Bg]
 by_cases h1:a1=a2
 ·rw[if_pos h1]
  by_cases h2:-r1=-r2
  ·rw[if_pos h2]
   have:r1=r2:=by omega
   subst h1 this
   simp
  ·rw[if_neg h2]
   have:r1≠r2:=by omega
   subst h1
   simp[this]
 ·rw[if_neg h1]
  simp[h1]
theorem aeq(r1 n1 r2 n2:Int):HT.lexLt [-r1,n1] [-r2,n2]=(decide (r2<r1)||(decide (r1=r2)&&decide (n1<n2))):=by
 rw[HT.jH,Bg]
 by_cases h2:-r1=-r2
 ·rw[if_pos h2]
  have:r1=r2:=by omega
  subst this
  simp
 ·rw[if_neg h2]
  have:r1≠r2:=by omega
  simp[this]
def kOf(f:Vbbhaj.Job→List Int)(L:List (Addr×Vbbhaj.Job))(i:Nat):List Int:=match L[i]? with
 |some p=>f p.2
 |none=>[0]
theorem zB{f:Vbbhaj.Job→List Int}{L:List (Addr×Vbbhaj.Job)}{i:Nat}{p:Addr×Vbbhaj.Job}(h:L[i]?=some p):kOf f L i=f p.2:=by unfold kOf;rw[h]
theorem Bl{L:List (Addr×Vbbhaj.Job)}{i:Nat}{v:V}(h:(refs L)[i]?=some v):∃p,L[i]?=some p∧v=.ref p.1:=by
 unfold refs at h
 rw[List.getElem?_map]at h
 cases q:L[i]? with
 |none=>rw[q]at h;cases h
 |some p=>rw[q]at h;exact⟨p,rfl,(Option.some.inj h).symm⟩
theorem qj(L:List (Addr×Vbbhaj.Job)):(refs L).length=L.length:=by unfold refs;rw[List.length_map]
theorem WW{f:Vbbhaj.Job→List Int}{L:List (Addr×Vbbhaj.Job)}{i:Nat}{p:Addr×Vbbhaj.Job}(h:L[i]?=some p)(hm:∀j',j'<(refs L).length→HT.lexLt (kOf f L j') (kOf f L i)=false):∀q∈L,HT.lexLt (f q.2) (f p.2)=false:=fun q hq=>by
 obtain⟨m,hm',em⟩:=List.getElem_of_mem hq
 have:=hm m (by rw[qj];exact hm')
 rw[zB h,zB (List.getElem?_eq_some_iff.mpr ⟨hm',em⟩)]at this
 exact this
theorem Bh(h:Rep T H A s){j:Vbbhaj.Job}(m:j∈s.jobs):∃b,(b,j)∈A.L:=by
 rw[← h.js]at m
 obtain⟨p,hp,e⟩:=List.mem_map.mp m
 exact⟨p.1,by rw[← e];exact hp⟩
theorem Ce(T:Txt K mg)(L:LK T base):bD P w K mg base CX0 4 T.dU.f T.dU.fd ["board","initiator","free"] (aaU T):=by
 refine Fun.okC T.dU.F jX (fun vs H Q E ⟨_,_,_,_,_,_,e,_⟩=>by rw[e];rfl) fun Ar outer sh H vs Q E hr hsp=>?_
 have hu:=d9 hr
 have hL:Fx (Mr CX0 P w K mg base ["board","initiator","free","due","classes","job"] "chosen_job" (aA iR) T.dU.f T.dU.fd.code Ar outer sh H E).nox T.mQ "chosen_job.<locals>.<lambda>":=⟨L.c1,L.bm,by rfl⟩
 refine⟨_,(ak (xH (i:=3) (own:=[("job",5)]) rfl jX.nd rfl rfl (Bp rfl rfl rfl (by decide +kernel)) (cY (pv 2)) (cF (by show qI ["board","initiator","free","due","classes","job"] (aA iR) _ _=true;decide +kernel)) (fun _ _ _ _ _=>(bL (i:=5) jX.nd rfl (Or.inl rfl))) (fun _ _ _ _ _=>(jK (bJ (aK T.kZ (uE T) (by exact hr.mono (by decide)) rfl (aj (pv 5) aq))))) (fun _ _ _ _ _=>(pv 5)))
   (ak (a_ (aR aap (bR bB rfl T.jo fX (aj (pv 3) aq)) aH (aQ _)) (az (aC (abY "job" 5 rfl jX.nd ⟨hr.depth,hr.in1.aba⟩ hL rfl T.T7 Ue (pv 3) (cF (by show qI ["board","initiator","free","due","classes","job"] (aA iR) _ _=true;decide +kernel)) (fun _ _ _ _ _ _=>(aD (K:=K) (pv 5) rfl))))) aL)
   (ak (bu (i:=4) jX.nd rfl (Or.inr rfl) (aD (K:=K) (pv 1) rfl))
   (az (aC (aaB "job" 5 rfl jX.nd ⟨hr.depth,hr.in1.aba⟩ hL rfl T.T7 Ue (pv 2) VG (cF (by show qI ["board","initiator","free","due","classes","job"] (aA iR) _ _=true;decide +kernel)) (fun _ _ _ _ _ _=>(VH (aj (aax (K:=K) (pv 4) (aj (aD (K:=K) (pv 5) rfl) aq)) (aj (acx aa_ (aK T.pF (Di T) (by exact(hr.in1.deeper _).mono (by decide)) rfl (aj (pv 5) (aj (aD (K:=K) (pv 0) rfl) aq)))) (aj (aD (K:=K) (pv 5) rfl) aq))))))))))),?_⟩
 obtain⟨X,A,s,a,x,l,rfl,hx,iv,hi,few,hl,kk⟩:=hsp
 have h:=hx.rep
 refine aN (vC (jY (K:=K) (k:=5) (ys:=A.L.filter fun q=>Vbbhaj.free s x q.2) (fun p=>V.ref p.1) (fun p=>decide (p.2.due≠0)) (fun p=>V.ref p.1) ((aa rfl).toL hl) (eZ (h.JW _)) (fun y hy=>fB (n6 (aa rfl) (h.vW _ y hy))) (fun y hy _=>aa rfl)) ?_)
 rintro v H1 s1 ⟨l1,rfl,hl1⟩
 (try dsimp only)
 have hl1:H1 l1=some (.lst (refs ((A.L.filter fun q=>Vbbhaj.free s x q.2).filter fun p=>decide (p.2.due≠0)))):=hl1
 generalize hDl:((A.L.filter fun q=>Vbbhaj.free s x q.2).filter fun p=>decide (p.2.due≠0))=Dl at hl1
 have memD:∀p∈Dl,p∈A.L∧Vbbhaj.free s x p.2=true∧p.2.due≠0:=fun p hp=>by
  rw[← hDl]at hp
  obtain⟨h1,h2⟩:=List.mem_filter.mp hp
  obtain⟨h1,h3⟩:=List.mem_filter.mp h1
  exact⟨h1,h3,by simpa using h2⟩
 have inD:∀p∈A.L,Vbbhaj.free s x p.2=true→p.2.due≠0→p∈Dl:=fun p h1 h2 h3=>by
  rw[← hDl]
  exact List.mem_filter.mpr ⟨List.mem_filter.mpr ⟨h1,h2⟩,by simpa using h3⟩
 refine cU (b:=decide (0<Dl.length)) (aP ((eY (mK (n:=Dl.length) ((aa rfl).toL hl1) (qj _)) aJ).cast (by congr 1;rw[Bool.eq_iff_iff];simp))) (fun q H2 s2=>?_) fun q H2 s2=>?_
 ·have q:0<Dl.length:=of_decide_eq_true q
  have hx2:=hx.up (s1.trans s2)
  have h2:=hx2.rep
  obtain⟨ps,hP,hT⟩:=id h2.tabs.1
  show tKw _ _ _ _ _ _
  refine abb (xs:=refs Dl) (tup:=false) (kf:=kOf (fun j=>[(j.due:Int)]) Dl) ((aa rfl).toL (s2 _ _ hl1)) ⟨ps,hP,hT⟩ (fun i v hv=>?_) (fun z=>absurd (congrArg List.length z) (by rw[qj,List.length_nil];omega)) (fun i v H3 hv hm g=>?_)
  ·obtain⟨p,hp,rfl⟩:=Bl hv
   have jb:=(h2.job p (memD p (List.mem_of_getElem? hp)).1).but hP
   rw[zB hp]
   exact(nT (aa rfl) jb).imp fun y H4 _ e=>⟨_,rfl,e⟩
  ·obtain⟨p,hp,rfl⟩:=Bl hv
   obtain⟨m1,m2,m3⟩:=memD p (List.mem_of_getElem? hp)
   refine kk _ H3 ((s1.trans s2).fix.trans (J4 g hP)) (hx2.gr L g (.inl ⟨rfl,rfl⟩)) (.inr ⟨p.1,p.2,?_,m1,rfl⟩)
   refine UL iv.g (xq h m1) m2 m3 fun k hk hf hd=>?_
   obtain⟨b,hb⟩:=Bh h hk
   have:=WW hp hm (b,k) (inD _ hb hf hd)
   rw[Bg,decide_eq_false_iff_not]at this
   have this:¬(k.due:Int)<(p.2.due:Int):=this
   omega
 have q:Dl.length=0:=by have:=of_decide_eq_false q;omega
 have noD:∀k∈s.jobs,Vbbhaj.free s x k=true→k.due=0:=fun k hk hf=>by
  by_cases hd:k.due=0
  ·exact hd
  ·obtain⟨b,hb⟩:=Bh h hk
   have:=List.length_pos_of_mem (inD _ hb hf hd)
   omega
 have sx:=s1.trans s2
 show nH _ _ _ _ _
 refine aN (vC (yc (aa rfl) (hi.up sx)) ?_)
 rintro v H3 s3 ⟨lc,rfl,hlc⟩
 (try dsimp only)
 have hx3:=hx.up (sx.trans s3)
 have h3:=hx3.rep
 obtain⟨ps,hP,hT⟩:=id h3.tabs.1
 have hl3:=s3 _ _ (sx _ _ hl)
 generalize hF:(A.L.filter fun q=>Vbbhaj.free s x q.2)=F at hl3
 have memF:∀p∈F,p∈A.L∧Vbbhaj.free s x p.2=true:=fun p hp=>by
  rw[← hF]at hp
  exact List.mem_filter.mp hp
 have inF:∀p∈A.L,Vbbhaj.free s x p.2=true→p∈F:=fun p h1 h2=>by
  rw[← hF]
  exact List.mem_filter.mpr ⟨h1,h2⟩
 show tKw _ _ _ _ _ _
 refine abb (xs:=refs F) (tup:=true) (kf:=kOf (fun j=>[((ix x.classes j.cls:Nat):Int),-((Vbbhaj.rank s j:Nat):Int),(j.num:Int)]) F) ((aa rfl).toL hl3) ⟨ps,hP,hT⟩ (fun i v hv=>?_) (fun z=>⟨rfl,fun H4 g=>?_⟩) (fun i v H4 hv hm g=>?_)
 ·obtain⟨p,hp,rfl⟩:=Bl hv
  obtain⟨m1,m2⟩:=memF p (List.mem_of_getElem? hp)
  have jb:=(h3.job p m1).but hP
  obtain⟨dxb,eb⟩:=h3.brd
  have eb':=Wg hP eb (by intro z;cases z)
  have ec':=Wg hP hlc (by intro z;cases z)
  have ag:=iv.g.aging
  rw[zB hp]
  refine(Wx (aB (Zx ((aa rfl).toL ec') (nR (aa rfl) jb) (RN m2)) (aB (Zz ((CP (aa rfl) jb (bZ (aa rfl) eb' T.bN T.uD (BV.l_a _)) ⟨by show(1:Int)≤(s.aging:Int);omega,by show(s.aging:Int)≤1000000;omega⟩).cast (w:=.int ((Vbbhaj.rank s p.2:Nat):Int)) (by rw[← QK];rfl))) (aB (gC (aa rfl) jb) aV))) (by show 3≤sizeLine;decide)).imp fun y H4 _ ⟨t,e1,e2⟩=>⟨t,e1,e2⟩
 ·have hF0:F=[]:=by
   have:=congrArg List.length z
   rw[qj]at this
   exact List.length_eq_zero_iff.mp this
  refine kk _ H4 ((sx.trans s3).fix.trans (J4 g hP)) (hx3.gr L g (.inl ⟨rfl,rfl⟩)) (.inl ⟨Ru fun k hk=>?_,rfl⟩)
  cases hf:Vbbhaj.free s x k with
  |false=>rfl
  |true =>
   obtain⟨b,hb⟩:=Bh h hk
   have:=inF _ hb hf
   rw[hF0]at this
   cases this
 ·obtain⟨p,hp,rfl⟩:=Bl hv
  obtain⟨m1,m2⟩:=memF p (List.mem_of_getElem? hp)
  refine kk _ H4 ((sx.trans s3).fix.trans (J4 g hP)) (hx3.gr L g (.inl ⟨rfl,rfl⟩)) (.inr ⟨p.1,p.2,?_,m1,rfl⟩)
  refine UT iv.g (xq h m1) m2 noD fun k hk hf=>?_
  obtain⟨b,hb⟩:=Bh h hk
  have:=WW hp hm (b,k) (inF _ hb hf)
  rw[aer]at this
  rw[← this]
  unfold kLt Vbbhaj.higher
  rw[Bool.eq_iff_iff]
  simp
  omega
end
end Jq
end
section
set_option Elab.async false
set_option linter.all false
set_option maxRecDepth 100000
set_option maxHeartbeats 1000000
namespace Jq
open PySem PySem.Spec PyProof.Rows L2
section
variable {P:Program}{w:World}{K:PySem.W.Frag}{mg:Str→Option Value}{base:Heap}
variable {σ:St}{H:Hp}{ta tb tc td:TE}{a:Addr}{j:Vbbhaj.Job}{A:Ad}{s:Vbbhaj.State}{T:Txt K mg}{X:Addr→Prop}{D:Ends}
theorem Q8{sp:Sp}{u:TA}{RA:List V→Hp→Prop}{Q:VK}(ha:EvA u σ H RA)(k:∀vs H',aY H H'→RA vs H'→sp vs H' Q E0):fH sp [] E0 u σ H Q:=ha H (aY.refl _) _ fun us H' s e=>by
 show sp (us++[]) H' Q E0
 rw[List.append_nil]
 exact k us H' s e
theorem WR{s:Vbbhaj.State}{n:Int}{y:Vbbhaj.State×Vbbhaj.Ans}(h:mW s n≠0):(if Vbbhaj.isInit n=false then Vbbhaj.no s 1 else if (Vbbhaj.initAt s n).on=false then Vbbhaj.no s 3 else if (Vbbhaj.initAt s n).job≠0 then Vbbhaj.no s 5 else y)=(s,{num:=mW s n}):=by
 unfold mW at h ⊢
 by_cases h1:uf s n=0
 ·rw[if_pos h1]at h ⊢
  obtain⟨q1,q2⟩:=GD h1
  rw[if_neg (nF q1),if_neg (nF q2)]
  by_cases h2:(Vbbhaj.initAt s n).job≠0
  ·rw[if_pos h2,if_pos h2];rfl
  ·rw[if_neg h2]at h;exact absurd rfl h
 ·rw[if_neg h1]
  exact Tc h1
theorem RW{s:Vbbhaj.State}{n:Int}(h:mW s n=0):Vbbhaj.isInit n=true∧(Vbbhaj.initAt s n).on=true∧(Vbbhaj.initAt s n).job=0:=by
 unfold mW at h
 by_cases h1:uf s n=0
 ·rw[if_pos h1]at h
  obtain⟨q1,q2⟩:=GD h1
  refine⟨q1,q2,?_⟩
  by_cases h2:(Vbbhaj.initAt s n).job≠0
  ·rw[if_pos h2]at h;exact absurd h (by decide)
  ·simpa using h2
 ·rw[if_neg h1]at h;exact absurd h h1
theorem Kw{s:Vbbhaj.State}(iv:Inv s){n:Int}(q1:Vbbhaj.isInit n=true)(q2:(Vbbhaj.initAt s n).on=true):(∀c∈(Vbbhaj.initAt s n).classes,Vbbhaj.isClass (c:Int)=true)∧(Vbbhaj.initAt s n).classes.length≤8:=by
 have h:=iv.i.cls _ (jG iv.g q1) q2
 unfold Vbbhaj.areClasses at h
 simp only[Bool.and_eq_true,decide_eq_true_eq,List.length_map]at h
 refine⟨fun c hc=>?_,h.1.2⟩
 exact List.all_eq_true.mp h.2.1 (Int.ofNat c) (List.mem_map_of_mem hc)
theorem abQ(T:Txt K mg)(L:LK T base):bD P w K mg base CX0 5 T.Gf.f T.Gf.fd ["board","number"] (spC T (dI .peek)):=by
 refine T.Gf.F.ok Jb (fun vs H Q E ⟨_,_,_,_,_,e,⟨_,e2,_⟩,_⟩=>by rw[e,e2];rfl) fun cdv A outer s H vs Q E hr hsp=>?_
 have hu:=d9 hr
 refine⟨_,(ak (bu (i:=2) Jb.nd rfl (Or.inl rfl) (aK T.cX (p8 T) (by exact hr.mono (by decide)) rfl (aj (pv 0) (aj (pv 1) aq))))
   (ak (a_ (aR ju (pv 2) (bz T.aW rfl) (aQ _)) (az (aC (bc (aj (pv 2) aq)))) aL)
   (ak (bu (i:=3) Jb.nd rfl (Or.inl rfl) (cM (by exact hu) (aD (K:=K) (pv 0) rfl) (pv 1) (fun _ _=>rfl)))
   (ak (bu (i:=4) Jb.nd rfl (Or.inl rfl) (aK T.dU (Ce T L) (by exact hr.mono (by decide)) rfl (aj (pv 0) (aj (pv 3) (aj (aK T.kY (Ex T) (by exact hr.mono (by decide)) rfl (aj (pv 0) (aj (pv 3) aq))) aq)))))
   (az (aC (SM (aR aaq (pv 4) VG (aQ _)) (bc (aj aH aq)) (bc (aj (aD (K:=K) (pv 4) rfl) aq))))))))),?_⟩
 obtain⟨X,A,s,c,rest,rfl,⟨n,rfl,rfl⟩,hx,iv,d⟩:=hsp
 have h:=hx.rep
 refine aN (iG (uo (aa rfl) (aa rfl) h iv) fun H1 s1=>?_)
 (try dsimp only)
 refine cU (aP (fM (aa rfl) aJ)) (fun q H2 s2=>?_) fun q H2 s2=>?_
 ·exact cI (aZ (aa rfl)) fun v H3 s3 l=>d.no hx (WR (by simpa using jr q)) (s1.trans (s2.trans s3)) l
 have q:mW s n=0:=by simpa using q
 obtain⟨q1,q2,q3⟩:=RW q
 have d:Done T X H A (Vbbhaj.yes s (((Vbbhaj.chosen s (Vbbhaj.initAt s n)).map fun j=>j.num).getD 0)) Q:=by
  have e:Vbbhaj.step s (.peek n)=_:=(if_neg (nF q1)).trans ((if_neg (nF q2)).trans (if_neg (by rw[q3];simp)))
  rw[e]at d
  exact d
 obtain⟨cl1,cl2⟩:=Kw iv q1 q2
 have hx2:=hx.up (s1.trans s2)
 have h2:=hx2.rep
 obtain⟨a,i1,i2,i3⟩:=iZ h2 iv.g q1
 show nH _ _ _ _ _
 refine aN (iG (fK (bU (aa rfl) h2) (aa rfl) h2.ini i2) fun H3 s3=>?_)
 (try dsimp only)
 have hx3:=hx2.up s3
 have h3:=hx3.rep
 have fr:EvL (fH (ro (WM T)) [] E0 (bw (cu 0) (bw (cu 3) eV))) [some (.ref A.b),some (.int n),some (.int (mW s n)),some (.ref a),none] H3 (refs (A.L.filter fun q=>Vbbhaj.free s (Vbbhaj.initAt s n) q.2)) :=
  nQ (G:=WM T) (aB (aa rfl) (aB (aa rfl) aV)) fun H4 s4=>⟨A,s,a,Vbbhaj.initAt s n,rfl,h3.up s4,iv,i3.up (s3.trans s4),cl1,cl2,rfl⟩
 refine aN ?_
 show fH _ _ _ _ _ _ _
 refine Q8 (RA:=fun vs H'=>∃l,vs=[.ref A.b,.ref a,.ref l]∧H' l=some (.lst (refs (A.L.filter fun q=>Vbbhaj.free s (Vbbhaj.initAt s n) q.2)))) (fun H4 s4 Q' k'=>Ev.use ((aa rfl).up s4) fun H5 s5=>Ev.use ((aa rfl).up (s4.trans s5)) fun H6 s6=>EvP.use (fr.up (s4.trans (s5.trans s6))) fun v H7 s7 ⟨l,e,hl⟩=>k' _ H7 (s5.trans (s6.trans s7)) ⟨l,by rw[e],hl⟩) fun vs H4 s4 ⟨l,e,hl⟩=>?_
 subst e
 refine⟨X,A,s,a,Vbbhaj.initAt s n,l,rfl,hx3.up s4,iv,i3.up (s3.trans s4),cl2,hl,fun v H5 f5 r5 hv=>?_⟩
 (try dsimp only)
 have fx:=(s1.trans (s2.trans (s3.trans s4))).fix.trans f5
 rcases hv with ⟨hn,rfl⟩|⟨b,j,hj,m,rfl⟩
 ·rw[hn]at d
  refine cI (U4 (b:=true) (R:=IsL [.int 0]) (aP ((Qa (aa rfl) aJ).cast rfl)) (fun _=>aZ aJ) (fun z=>by cases z)) fun v H6 s6 lv=>d.go (r5.up s6) rfl (fx.trans s6.fix) lv
 ·rw[hj]at d
  refine cI (U4 (b:=false) (R:=IsL [.int (j.num:Nat)]) (aP ((Qa (aa rfl) aJ).cast (by simp))) (fun z=>by cases z) (fun _=>aZ (gC (aa rfl) (r5.rep.job _ m)))) fun v H6 s6 lv=>d.go (r5.up s6) rfl (fx.trans s6.fix) lv
theorem abR(T:Txt K mg)(L:LK T base):bD P w K mg base CX0 5 T.Gg.f T.Gg.fd ["board","number"] (spC T (dI .pick)):=by
 refine T.Gg.F.ok yt (fun vs H Q E ⟨_,_,_,_,_,e,⟨_,e2,_⟩,_⟩=>by rw[e,e2];rfl) fun cdv A outer s H vs Q E hr hsp=>?_
 have hu:=d9 hr
 refine⟨_,(ak (bu (i:=2) yt.nd rfl (Or.inl rfl) (aK T.cX (p8 T) (by exact hr.mono (by decide)) rfl (aj (pv 0) (aj (pv 1) aq))))
   (ak (a_ (aR ju (pv 2) (bz T.aW rfl) (aQ _)) (az (aC (bc (aj (pv 2) aq)))) aL)
   (ak (bu (i:=3) yt.nd rfl (Or.inl rfl) (cM (by exact hu) (aD (K:=K) (pv 0) rfl) (pv 1) (fun _ _=>rfl)))
   (ak (bu (i:=4) yt.nd rfl (Or.inl rfl) (aK T.kY (Ex T) (by exact hr.mono (by decide)) rfl (aj (pv 0) (aj (pv 3) aq))))
   (ak (bu (i:=5) yt.nd rfl (Or.inr rfl) (aK T.dU (Ce T L) (by exact hr.mono (by decide)) rfl (aj (pv 0) (aj (pv 3) (aj (pv 4) aq)))))
   (ak (a_ (aR aaq (pv 5) VG (aQ _)) (az (aC (bc (aj aH aq)))) aL)
   (ak (iT (aK T.pC (Qy T) (by exact hr.mono (by decide)) rfl (aj (pv 0) (aj (ue (own:=[("other",6)]) rfl yt.nd (cY (pv 4)) (cF (by show qI ["board","number","refusal","initiator","free","job","other"] (aA Jc) _ _=true;decide +kernel)) (fun _ _ _ _ _=>(bL (i:=6) yt.nd rfl (Or.inl rfl))) (fun _ _ _ _ _=>(jK (aR ju (aD (K:=K) (pv 6) rfl) (aD (K:=K) (pv 5) rfl) (aQ _)))) (fun _ _ _ _ _=>(pv 6))) aq))))
   (ak (iT (aK T.uC (Vu T) (by exact hr.mono (by decide)) rfl (aj (pv 3) (aj (pv 5) aq))))
   (az (aC (bc (aj (aD (K:=K) (pv 5) rfl) aq)))))))))))),?_⟩
 obtain⟨X,A,s,c,rest,rfl,⟨n,rfl,rfl⟩,hx,iv,d⟩:=hsp
 have h:=hx.rep
 refine aN (iG (uo (aa rfl) (aa rfl) h iv) fun H1 s1=>?_)
 (try dsimp only)
 refine cU (aP (fM (aa rfl) aJ)) (fun q H2 s2=>?_) fun q H2 s2=>?_
 ·exact cI (aZ (aa rfl)) fun v H3 s3 l=>d.no hx (WR (by simpa using jr q)) (s1.trans (s2.trans s3)) l
 have q:mW s n=0:=by simpa using q
 obtain⟨q1,q2,q3⟩:=RW q
 have d:Done T X H A (match Vbbhaj.chosen s (Vbbhaj.initAt s n)with | none=>Vbbhaj.yes s 0 | some j=>Vbbhaj.yes (Vbbhaj.picked s n j) j.num) Q:=by
  have e:Vbbhaj.step s (.pick n)=_:=(if_neg (nF q1)).trans ((if_neg (nF q2)).trans (if_neg (by rw[q3];simp)))
  rw[e]at d
  exact d
 obtain⟨cl1,cl2⟩:=Kw iv q1 q2
 have hx2:=hx.up (s1.trans s2)
 have h2:=hx2.rep
 obtain⟨a,i1,i2,i3⟩:=iZ h2 iv.g q1
 generalize hix:Vbbhaj.initAt s n=x at d cl1 cl2 i1 i3
 show nH _ _ _ _ _
 refine aN (iG (fK (bU (aa rfl) h2) (aa rfl) h2.ini i2) fun H3 s3=>?_)
 (try dsimp only)
 have hx3:=hx2.up s3
 have h3:=hx3.rep
 refine aN (vC (R:=IsL (refs (A.L.filter fun q=>Vbbhaj.free s x q.2))) (nQ (G:=WM T) (aB (aa rfl) (aB (aa rfl) aV)) fun H4 s4=>⟨A,s,a,x,rfl,h3.up s4,iv,i3.up (s3.trans s4),cl1,cl2,rfl⟩) ?_)
 rintro v H4 s4 ⟨lf,rfl,hlf⟩
 (try dsimp only)
 refine aN (Hh (aB (aa rfl) (aB (aa rfl) (aB (aa rfl) aV))) fun H5 s5=>?_)
 refine⟨X,A,s,a,x,lf,rfl,hx3.up (s4.trans s5),iv,i3.up (s3.trans (s4.trans s5)),cl2,s5 _ _ hlf,fun v H6 f6 r6 hv=>?_⟩
 (try dsimp only)
 have fx:=(s1.trans (s2.trans (s3.trans (s4.trans s5)))).fix.trans f6
 rcases hv with ⟨hn,rfl⟩|⟨b,j,hj,m,rfl⟩
 ·rw[hn]at d
  refine cU (b:=true) (aP ((Qa (aa rfl) aJ).cast rfl)) (fun _ H7 s7=>?_) (fun z=>by cases z)
  exact cI (aZ aJ) fun v H8 s8 lv=>d.go (r6.up (s7.trans s8)) rfl (fx.trans (s7.trans s8).fix) lv
 simp only[hj]at d
 obtain⟨mj,hfree⟩:=Hn hj
 have hw:=(rW (CQ hfree)).1
 refine cU (b:=false) (aP ((Qa (aa rfl) aJ).cast (by simp))) (fun z=>by cases z) (fun _ H7 s7=>?_)
 have r7:=r6.up s7
 have h7:=r7.rep
 have hlf7:H7 lf=some (.lst (refs (A.L.filter fun q=>Vbbhaj.free s x q.2))):=s7 _ _ (f6 _ _ (s5 _ _ hlf) rfl)
 show nH _ _ _ _ _
 have lcp:EvL _ [some (.ref A.b),some (.int n),some (.int (mW s n)),some (.ref a),some (.ref lf),some (.ref b),none] H7 (((A.L.filter fun q=>Vbbhaj.free s x q.2).filter fun p=>decide (p.2.num≠j.num)).map fun p=>V.ref p.1) :=
  jY (K:=K) (k:=6) (tt:=Xh (tOp rNe (km K (cu 6) "number") (km K (cu 5) "number"))) (te:=cu 6) (tl:=cu 4) (ys:=A.L.filter fun q=>Vbbhaj.free s x q.2) (fun p=>V.ref p.1) (fun p=>decide (p.2.num≠j.num)) (fun p=>V.ref p.1) ((aa rfl).toL hlf7) (eZ (h7.JW _)) (fun y hy=>aP ((fM (gC (aa rfl) (h7.vW _ y hy)) (gC (aa rfl) (h7.job _ m))).cast (by congr 1;rw[Bool.eq_iff_iff];simp;omega))) (fun y hy _=>aa rfl)
 generalize hF:((A.L.filter fun q=>Vbbhaj.free s x q.2).filter fun p=>decide (p.2.num≠j.num))=F at lcp
 have memF:∀p∈F,p∈A.L∧p.2.num≠j.num:=fun p hp=>by
  rw[← hF]at hp
  obtain⟨h1,h2⟩:=List.mem_filter.mp hp
  exact⟨(List.mem_filter.mp h1).1,by simpa using h2⟩
 refine aN (Q8 (JN (aa rfl) lcp W2) fun vs H8 s8 ⟨v,e,lp,ev,hlp⟩=>?_)
 subst e
 subst ev
 have sF:cV (F.map (·.2)):=by
  refine List.Pairwise.sublist (List.Sublist.map _ ?_) h7.Mw
  rw[← hF]
  exact List.filter_sublist.trans List.filter_sublist
 refine⟨X,A,s,lp,F,rfl,r7.up s8,hlp,sF,fun p hp=>(memF p hp).1,fun H9 L9 f9 r9 k9=>?_⟩
 (try dsimp only)
 have mj9:(b,j)∈L9:=k9 _ m fun q hq=>(memF q hq).2
 refine aN (pA (aB (aa rfl) (aB (aa rfl) aV)) fun H10 s10=>?_)
 refine⟨X,_,_,n.toNat - 1,a,x,b,j,rfl,r9.up s10,i1,mj9,hw,fun H11 f11 r11=>?_⟩
 (try dsimp only)
 have ej:(b,({j with status:=.running,passed:=0,due:=0}:Vbbhaj.Job))∈(L9.map fun p=>if p.2.num=j.num then (p.1,({j with status:=.running,passed:=0,due:=0}:Vbbhaj.Job))else p):=List.mem_map.mpr ⟨(b,j),mj9,if_pos rfl⟩
 have hpo:Vbbhaj.passOver s x j.num s.stamp s.jobs=poF s.passes (F.map (·.2)) s.stamp s.jobs:=by
  rw[z_ s x j.num s.jobs s.stamp iv.g.srt,← hF]
  congr 1
  rw[← h.js,List.filter_filter,List.filter_map]
  rfl
 have epk:Vbbhaj.picked s n j={s with stamp:=(poF s.passes (F.map (·.2)) s.stamp s.jobs).1,jobs:=Vbbhaj.setJob (poF s.passes (F.map (·.2)) s.stamp s.jobs).2 {j with status:=.running,passed:=0,due:=0},inits:=s.inits.set (n.toNat - 1) {x with job:=j.num}}:=by
  rw[← hpo,← hix]
  rfl
 rw[epk]at d
 refine cI (aZ (gC (aa rfl) (r11.rep.job _ ej))) fun v H12 s12 lv=>d.go (r11.up s12) rfl ?_ lv
 exact fx.trans ((s7.trans s8).fix.trans (f9.trans (s10.fix.trans (f11.trans s12.fix))))
def Fd(is:List Nat)(L:List (Addr×Vbbhaj.Job)):List (Addr×Vbbhaj.Job):=is.filterMap fun i=>L[i]?
theorem Oa{is:List Nat}{L:List (Addr×Vbbhaj.Job)}(h:∀i∈is,i<L.length):(is.map fun i=>(refs L).getD i .non)=refs (Fd is L):=by
 induction is with
 |nil=>rfl
 |cons i r ih =>
  have hi:=h i List.mem_cons_self
  unfold Fd at ih ⊢
  rw[List.map_cons,ih fun k hk=>h k (List.mem_cons_of_mem _ hk),List.filterMap_cons,List.getElem?_eq_getElem hi]
  show _=refs (L[i]::_)
  unfold refs
  rw[List.map_cons]
  congr 1
  rw[List.getD_eq_getElem?_getD,List.getElem?_map,List.getElem?_eq_getElem hi]
  rfl
theorem VL(L:List (Addr×Vbbhaj.Job)):Fd (List.range L.length) L=L:=by
 unfold Fd
 refine List.ext_getElem? fun i=>?_
 have:∀(L:List (Addr×Vbbhaj.Job)),(List.range L.length).filterMap (fun i=>L[i]?)=L:=by
  intro L
  induction L with
  |nil=>rfl
  |cons a r ih =>
   rw[List.length_cons,List.range_succ_eq_map,List.filterMap_cons]
   show a::_=_
   rw[List.filterMap_map]
   congr 1
 rw[this]
theorem N_{is:List Nat}{L:List (Addr×Vbbhaj.Job)}(h:is.Perm (List.range L.length)):(Fd is L).Perm L:=by
 have:=h.filterMap (fun i=>L[i]?)
 rw[show(List.range L.length).filterMap (fun i=>L[i]?)=L from VL L]at this
 exact this
theorem HD{is:List Nat}{f:Vbbhaj.Job→List Int}{L:List (Addr×Vbbhaj.Job)}(h:is.Pairwise fun i j=>HT.lexLt (kOf f L j) (kOf f L i)=false):(Fd is L).Pairwise fun p q=>HT.lexLt (f q.2) (f p.2)=false:=by
 unfold Fd
 rw[List.pairwise_filterMap]
 refine h.imp fun{i j} hij p hp q hq=>?_
 rw[zB hp,zB hq]at hij
 exact hij
theorem MN(T:Txt K mg)(L:LK T base):bD P w K mg base CX0 5 T.fJ.f T.fJ.fd ["board","class_of"] (spC T (dI .order)):=by
 refine Fun.okC T.fJ.F cR (fun vs H Q E ⟨_,_,_,_,_,e,⟨_,e2,_⟩,_⟩=>by rw[e,e2];rfl) fun Ar outer sh H vs Q E hr hsp=>?_
 have hu:=d9 hr
 have hL:Fx (Mr CX0 P w K mg base ["board","class_of","ready","due","others","job"] "tell_order" (aA dN) T.fJ.f T.fJ.fd.code Ar outer sh H E).nox T.mR "tell_order.<locals>.<lambda>":=⟨L.c2,L.bm,by rfl⟩
 refine⟨_,(ak (a_ (cD (bJ (aK T.fY (lM T) (by exact hr.mono (by decide)) rfl (aj (pv 1) aq)))) (az (aC (bc (aj (bz T.bH rfl) aq)))) aL)
   (ak (xH (i:=2) (own:=[("job",5)]) rfl cR.nd rfl rfl (Bp rfl rfl rfl (by decide +kernel)) (cY (aK T.jC (Ci T) (by exact hr.mono (by decide)) rfl (aj (pv 0) aq))) (cF (by show qI ["board","class_of","ready","due","others","job"] (aA dN) _ _=true;decide +kernel)) (fun _ _ _ _ _=>(bL (i:=5) cR.nd rfl (Or.inl rfl))) (fun _ _ _ _ _=>(jK (aR dm (aD (K:=K) (pv 5) rfl) (pv 1) (aQ _)))) (fun _ _ _ _ _=>(pv 5)))
   (ak (bu (i:=3) cR.nd rfl (Or.inl rfl) (SN "job" 5 rfl cR.nd hr.in1.depth hL rfl T.vD wR (ue (own:=[("job",5)]) rfl cR.nd (cY (pv 2)) (cF (by show qI ["board","class_of","ready","due","others","job"] (aA dN) _ _=true;decide +kernel)) (fun _ _ _ _ _=>(bL (i:=5) cR.nd rfl (Or.inl rfl))) (fun _ _ _ _ _=>(jK (bJ (aK T.kZ (uE T) (by exact hr.mono (by decide)) rfl (aj (pv 5) aq))))) (fun _ _ _ _ _=>(pv 5))) (cF (by show qI ["board","class_of","ready","due","others","job"] (aA dN) _ _=true;decide +kernel)) (fun _ _ _ _ _ _=>(aD (K:=K) (pv 5) rfl))))
   (ak (bu (i:=4) cR.nd rfl (Or.inl rfl) (SN "job" 5 rfl cR.nd hr.in1.depth hL rfl T.vD wR (ue (own:=[("job",5)]) rfl cR.nd (cY (pv 2)) (cF (by show qI ["board","class_of","ready","due","others","job"] (aA dN) _ _=true;decide +kernel)) (fun _ _ _ _ _=>(bL (i:=5) cR.nd rfl (Or.inl rfl))) (fun _ _ _ _ _=>(jK (cD (bJ (aK T.kZ (uE T) (by exact hr.mono (by decide)) rfl (aj (pv 5) aq)))))) (fun _ _ _ _ _=>(pv 5))) (cF (by show qI ["board","class_of","ready","due","others","job"] (aA dN) _ _=true;decide +kernel)) (fun _ _ _ _ _ _=>(VH (aj (acx aa_ (aK T.pF (Di T) (by exact(hr.in1.in1.deeper _).mono (by decide)) rfl (aj (pv 5) (aj (aD (K:=K) (pv 0) rfl) aq)))) (aj (aD (K:=K) (pv 5) rfl) aq))))))
   (az (aC (jw p_ (bc (aj (bR bB rfl T.jo fX (aj (pv 2) aq)) aq)) (aK T.dJ (gk T) (by exact hr.mono (by decide)) rfl (aj (ue (own:=[("job",5)]) rfl cR.nd (cY (jw p_ (pv 3) (pv 4))) (cF (by show qI ["board","class_of","ready","due","others","job"] (aA dN) _ _=true;decide +kernel)) (fun _ _ _ _ _=>(bL (i:=5) cR.nd rfl (Or.inl rfl))) (fun _ _ _ _ _=>yp) (fun _ _ _ _ _=>(aD (K:=K) (pv 5) rfl))) aq))))))))),?_⟩
 obtain⟨X,A,s,_,rest,rfl,⟨c,rfl,rfl⟩,hx,iv,d⟩:=hsp
 refine cU (cC (fB (iY (aa rfl)))) (fun q H1 s1=>?_) fun q H1 s1=>?_
 ·exact cI (aZ aJ) fun v H3 s3 l=>d.no (n:=-1) hx (if_pos (show Vbbhaj.isClass c=false from jr q)) (s1.trans s3) l
 have qc:Vbbhaj.isClass c=true:=nU q
 have cN:((c.toNat:Nat):Int)=c:=yE (lo:=1) (hi:=36) qc (by decide)
 have d:Done T X H A (Vbbhaj.yes s (Vbbhaj.inOrder s c.toNat).length [(Vbbhaj.inOrder s c.toNat).map fun j=>j.num]) Q:=by
  have e:Vbbhaj.step s (.order c)=_:=if_neg (nF qc)
  rw[e]at d
  exact d
 have hx1:=hx.up s1
 have h1:=hx1.rep
 show nH _ _ _ _ _
 refine aN (vC (jY (K:=K) (k:=5) (ys:=A.L.filter fun q=>Vbbhaj.ready q.2) (fun p=>V.ref p.1) (fun p=>p.2.cls==c.toNat) (fun p=>V.ref p.1) (uq (aa rfl) h1) (eZ (h1.JW _)) (fun y hy=>aP ((bY (nR (aa rfl) (h1.vW _ y hy)) (aa rfl)).cast (by congr 1;rw[Bool.eq_iff_iff];simp;omega))) (fun y hy _=>aa rfl)) ?_)
 rintro v H2 s2 ⟨lr,rfl,hlr⟩
 (try dsimp only)
 have hlr:H2 lr=some (.lst (refs ((A.L.filter fun q=>Vbbhaj.ready q.2).filter fun p=>p.2.cls==c.toNat))):=hlr
 generalize hR:((A.L.filter fun q=>Vbbhaj.ready q.2).filter fun p=>p.2.cls==c.toNat)=R at hlr
 have memR:∀p∈R,p∈A.L:=fun p hp=>by
  rw[← hR]at hp
  exact(List.mem_filter.mp (List.mem_filter.mp hp).1).1
 have fewR:R.length≤500:=by
  rw[← hR]
  exact Nat.le_trans (List.length_filter_le ..) (h1.JW _)
 have hRj:R.map (·.2)=s.jobs.filter fun j=>Vbbhaj.ready j&&j.cls==c.toNat:=by
  rw[← hR,← h1.js,List.filter_filter,List.filter_map]
  congr 1
  refine List.filter_congr fun p _=>?_
  show(p.2.cls==c.toNat&&Vbbhaj.ready p.2)=(Vbbhaj.ready p.2&&p.2.cls==c.toNat)
  rw[Bool.and_comm]
 have hx2:=hx1.up s2
 have h2:=hx2.rep
 obtain⟨ps,hP,hT⟩:=id h2.tabs.2
 refine aN ?_
 show tKw _ _ _ _ _ _
 have DlL:EvL _ [some (.ref A.b),some (.int c),some (.ref lr),none,none,none] H2 (refs (R.filter fun p=>decide (p.2.due≠0))) :=
  jY (K:=K) (k:=5) (tt:=tB (fH (ro (X6 T fun j=>.bl (decide (j.due≠0)))) [] E0 (bw (cu 5) eV))) (te:=cu 5) (tl:=cu 2) (ys:=R) (fun p=>V.ref p.1) (fun p=>decide (p.2.due≠0)) (fun p=>V.ref p.1) ((aa rfl).toL hlr) (eZ fewR) (fun y hy=>fB (n6 (aa rfl) (h2.job _ (memR y hy)))) (fun y hy _=>aa rfl)
 refine Xk (xs:=refs (R.filter fun p=>decide (p.2.due≠0))) (tup:=false) (kf:=kOf (fun j=>[(j.due:Int)]) (R.filter fun p=>decide (p.2.due≠0))) DlL ⟨ps,hP,hT⟩ (fun i v hv=>?_) (by simp) (fun is dD H3 hs g nD hD=>?_)
 ·obtain⟨p,hp,rfl⟩:=Bl hv
  have jb:=(h2.job p (memR p (List.mem_filter.mp (List.mem_of_getElem? hp)).1)).but hP
  rw[zB hp]
  exact(nT (aa rfl) jb).imp fun y H4 _ e=>⟨_,rfl,e⟩
 (try dsimp only)
 rw[qj]at hs
 have hin1:∀i∈is,i<(R.filter fun p=>decide (p.2.due≠0)).length:=fun i hi=>by
  have:=hs.1.mem_iff.mp hi
  rw[List.mem_range]at this
  exact this
 rw[Oa hin1]at hD
 have pD:=N_ hs.1
 have sD:=HD hs.2
 generalize hDs:Fd is (R.filter fun p=>decide (p.2.due≠0))=Ds at hD pD sD
 have hx3:=hx2.gr L g (.inr ⟨rfl,rfl⟩)
 have h3:=hx3.rep
 have f3:=J4 g hP
 have hlr3:=f3 _ _ hlr rfl
 obtain⟨ps3,hP3,hT3⟩:=id h3.tabs.2
 refine aN ?_
 show tKw _ _ _ _ _ _
 have OlL:EvL _ [some (.ref A.b),some (.int c),some (.ref lr),some (.ref dD),none,none] H3 (refs (R.filter fun p=>!decide (p.2.due≠0))) :=
  jY (K:=K) (k:=5) (tt:=adE (tB (fH (ro (X6 T fun j=>.bl (decide (j.due≠0)))) [] E0 (bw (cu 5) eV)))) (te:=cu 5) (tl:=cu 2) (ys:=R) (fun p=>V.ref p.1) (fun p=>!decide (p.2.due≠0)) (fun p=>V.ref p.1) ((aa rfl).toL hlr3) (eZ fewR) (fun y hy=>cC (fB (n6 (aa rfl) (h3.job _ (memR y hy))))) (fun y hy _=>aa rfl)
 refine Xk (xs:=refs (R.filter fun p=>!decide (p.2.due≠0))) (tup:=true) (kf:=kOf (fun j=>[-((Vbbhaj.rank s j:Nat):Int),(j.num:Int)]) (R.filter fun p=>!decide (p.2.due≠0))) OlL ⟨ps3,hP3,hT3⟩ (fun i v hv=>?_) (fun _ m=>by unfold kOf;split<;>simp) (fun is2 dO H4 hs2 g2 nO hO=>?_)
 ·obtain⟨p,hp,rfl⟩:=Bl hv
  have jb:=(h3.job p (memR p (List.mem_filter.mp (List.mem_of_getElem? hp)).1)).but hP3
  obtain⟨dxb,eb⟩:=h3.brd
  have eb':=Wg hP3 eb (by intro z;cases z)
  have ag:=iv.g.aging
  rw[zB hp]
  refine(Wx (aB (Zz ((CP (aa rfl) jb (bZ (aa rfl) eb' T.bN T.uD (BV.l_a _)) ⟨by show(1:Int)≤(s.aging:Int);omega,by show(s.aging:Int)≤1000000;omega⟩).cast (w:=.int ((Vbbhaj.rank s p.2:Nat):Int)) (by rw[← QK];rfl))) (aB (gC (aa rfl) jb) aV)) (by show 2≤sizeLine;decide)).imp fun y H4 _ ⟨t,e1,e2⟩=>⟨t,e1,e2⟩
 (try dsimp only)
 rw[qj]at hs2
 have hin2:∀i∈is2,i<(R.filter fun p=>!decide (p.2.due≠0)).length:=fun i hi=>by
  have:=hs2.1.mem_iff.mp hi
  rw[List.mem_range]at this
  exact this
 rw[Oa hin2]at hO
 have pO:=N_ hs2.1
 have sO:=HD hs2.2
 generalize hOs:Fd is2 (R.filter fun p=>!decide (p.2.due≠0))=Os at hO pO sO
 have hx4:=hx3.gr L g2 (.inr ⟨rfl,rfl⟩)
 have h4:=hx4.rep
 have f4:=J4 g2 hP3
 have hD4:=f4 _ _ hD rfl
 have hlr4:=f4 _ _ hlr3 rfl
 have memO:∀p∈Ds++Os,p∈A.L:=fun p hp=>by
  rcases List.mem_append.mp hp with hp|hp
  ·exact memR _ (List.mem_filter.mp (pD.mem_iff.mp hp)).1
  ·exact memR _ (List.mem_filter.mp (pO.mem_iff.mp hp)).1
 have eOrd:(Ds++Os).map (·.2)=Vbbhaj.inOrder s c.toNat:=by
  rw[List.map_append]
  refine Vb iv.g ?_ ?_ ?_ ?_
  ·rw[← hRj,List.filter_map]
   exact pD.map _
  ·rw[← hRj,List.filter_map]
   exact pO.map _
  ·rw[List.pairwise_map]
   refine sD.imp fun{p q} hpq=>?_
   rw[Bg,decide_eq_false_iff_not]at hpq
   omega
  ·rw[List.pairwise_map]
   refine sO.imp fun{p q} hpq=>?_
   rw[aeq]at hpq
   rw[← hpq]
   unfold Vbbhaj.higher
   rw[Bool.eq_iff_iff]
   simp
   omega
 have lenR:R.length=(Vbbhaj.inOrder s c.toNat).length:=by
  rw[← eOrd,List.length_map,List.length_append,pD.length_eq,pO.length_eq]
  have:=(List.filter_append_perm (fun p:Addr×Vbbhaj.Job=>decide (p.2.due≠0)) R).length_eq
  rw[List.length_append]at this
  exact this.symm
 have few2:(Ds++Os).length≤500:=by
  have:=congrArg List.length eOrd
  rw[List.length_map]at this
  omega
 have fin:EvL _ [some (.ref A.b),some (.int c),some (.ref lr),some (.ref dD),some (.ref dO),none] H4 (((Ds++Os).filter fun _=>true).map fun p=>V.int (p.2.num:Nat)) :=
  jY (K:=K) (k:=5) (tt:=Y0) (te:=km K (cu 5) "number") (tl:=tOp abZ (cu 3) (cu 4)) (ys:=Ds++Os) (fun p=>V.ref p.1) (fun _=>true) (fun p=>V.int (p.2.num:Nat)) ((mL ((aa rfl).toL hD4) ((aa rfl).toL hO) (sI (by rw[qj,qj];rw[List.length_append]at few2;omega))).cast (by unfold refs;rw[List.map_append])) (eZ few2) (fun y hy=>PX) (fun y hy _=>gC (aa rfl) (h4.job _ (memO y hy)))
 rw[filter_true']at fin
 have erow:((Ds++Os).map fun p=>V.int (p.2.num:Nat))=pI ((Vbbhaj.inOrder s c.toNat).map fun j=>j.num):=by
  rw[← eOrd]
  unfold pI
  rw[List.map_map,List.map_map]
  rfl
 rw[erow]at fin
 have lrow:((Vbbhaj.inOrder s c.toNat).map fun j=>j.num).length≤500:=by rw[List.length_map,← lenR];exact fewR
 refine cI (mL (aZ (mK (n:=(Vbbhaj.inOrder s c.toNat).length) ((aa rfl).toL hlr4) (by rw[qj,lenR]))) (gM fin (iw (by rw[jk];omega))) (sI (by simp only[List.length_cons,List.length_nil,jk];omega))) fun v H5 s5 lv=>d.go (hx4.up s5) rfl ?_ ?_
 ·exact(s1.trans s2).fix.trans (f3.trans (f4.trans s5.fix))
 ·have e2:vO (Vbbhaj.yes s (Vbbhaj.inOrder s c.toNat).length [(Vbbhaj.inOrder s c.toNat).map fun j=>j.num]).2=_:=Jg (((Vbbhaj.inOrder s c.toNat).length:Nat):Int) _
  rw[e2]
  rw[jk]at lv
  exact lv
end
end Jq
end
section
set_option Elab.async false
set_option linter.all false
set_option maxRecDepth 100000
set_option maxHeartbeats 1000000
namespace Jq
open PySem PySem.Spec PyProof.Rows L2
def adF(K:PySem.W.Frag)(ty:TE):TE:=fun σ H Q=>ty σ H fun y H1=>∃p n k,y=.int p∧PyVbbhaj.shape p=some (n,k)∧∀t,(∀H:Hp,SqT K H t [.int (n:Nat),.int (k:Nat)])→Q (.ref t) H1
theorem Yz{X:Cx}{K:PySem.W.Frag}{i:Expr}{ty:TE}{p pos:Pos}(S:yU X.K X.mg)(hi:PE X i ty)(hK:X.K=K:=by rfl)(hg:Gl X "SHAPES":=by rfl)(hs:acF i:=by exact fun _ _=>rfl):PE X (.Subscript (.Name "SHAPES" p) i pos) (adF K ty):=by
 subst hK
 obtain⟨a,vs,e,dd,sh⟩:=S
 intro pins s σ H Q I h
 refine Xf PySem.F.slot_dict_getitem.lookup hs (thn ((W6 (v:=.ref a) hg e rfl) pins s σ H (fun v H1=>v=.ref a∧H1=H) I ⟨rfl,rfl⟩) fun u s1 ⟨x,H1,I1,rx,ex,eH⟩=>?_)
 subst ex
 subst eH
 obtain rfl:u=Value.ref a:=rx
 refine thn (hi pins s1 σ H1 _ I1 h) fun iv s2 ⟨y,H2,I2,ry,p,n,k,ey,hp,q⟩=>?_
 subst ey
 obtain⟨t,ht,hsq⟩:=sh p n k hp
 have D:=dd X.prog X.w s2.heap I2.kIn
 exact⟨D.typeIs,wpAny_getItem_of (J6 (k:=(Sum.inl p:Key)) ry) D.mapOf ht ⟨.ref t,H2,I2.tok _,rfl,q t hsq⟩⟩
section
variable {P:Program}{w:World}{K:PySem.W.Frag}{mg:Str→Option Value}{base:Heap}
variable {σ:St}{H:Hp}{ta tb tc td:TE}{a:Addr}{j:Vbbhaj.Job}{A:Ad}{s:Vbbhaj.State}{T:Txt K mg}{X:Addr→Prop}{D:Ends}
def Tq(T:Txt K mg):Sp:=fun vs H Q _=>∃x dx l,vs=[.ref x,.ref l]∧H x=some (.ins T.h_ dx [])∧∀H',Kp x H H'→H' x=some (.ins T.h_ dx (RV.mk l 0).fs)→Q .non H'
theorem Kg(T:Txt K mg):bD P w K mg base CX0 1 T.gB.f T.gB.fd ["self","calls"] (Tq T):=by
 refine T.gB.F.ok KZ (fun vs H Q E ⟨_,_,_,e,_⟩=>by rw[e];rfl) fun cdv A outer s H vs Q E hr hsp=>⟨_,(ak (bG (pv 0) (pv 1) rfl)
   (az (bG (pv 0) aH rfl))),?_⟩
 obtain⟨x,dx,l,rfl,e0,k⟩:=hsp
 refine aN (bT (aa rfl) (aa rfl) e0 T.dz T.jc (lt1000 (by decide)) fun H1 k1 e1=>?_)
 (try dsimp only)
 rw[RV.abA]at e1
 refine bT aJ (aa rfl) e1 T.dz T.eG (lt1000 (by show 1≤20;decide)) fun H2 k2 e2=>?_
 (try dsimp only)
 rw[RV.abB]at e2
 exact k H2 (k1.trans k2) e2
def RL(lo:HO)(xs:List Int):Prop:=lo=.lst (xs.map V.int)∨∃ob,lo=.frz ob (.lst (xs.map V.int))
theorem RL.fix{lo:HO}{xs:List Int}(q:RL lo xs):Qg lo=true:=by
 rcases q with rfl|⟨ob,rfl⟩
 ·rfl
 ·rfl
theorem RL.rd{lo:HO}{xs:List Int}{l:Addr}(q:RL lo xs)(e:H l=some lo):SqL K H l (xs.map V.int):=by
 rcases q with rfl|⟨ob,rfl⟩
 ·exact .inl (.inl e)
 ·exact .inl (.inr ⟨ob,e⟩)
def Bt(T:Txt K mg)(H:Hp)(r dx l:Addr)(p:Nat)(lo:HO):Prop:=H r=some (.ins T.h_ dx (RV.mk l p).fs)∧H l=some lo
theorem Bt.up{H H':Hp}{r dx l:Addr}{p:Nat}{lo:HO}(h:Bt T H r dx l p lo)(s:aY H H'):Bt T H' r dx l p lo:=⟨s _ _ h.1,s _ _ h.2⟩
theorem Bt.ne{H:Hp}{r dx l:Addr}{p:Nat}{lo:HO}{xs:List Int}(h:Bt T H r dx l p lo)(q:RL lo xs):l≠r:=cB h.2 h.1 (by
 intro z
 rcases q with rfl|⟨ob,rfl⟩<;>cases z)
section
variable {lo:HO}{xs:List Int}{l:Addr}
theorem abu(ha:Ev ta σ H (.ref l))(e:H l=some lo)(q:RL lo xs):Ev (tCB (fun xs H Q=>∃p ys,xs=[.ref p]∧(SqL K H p ys∨SqT K H p ys)∧Q (.int ys.length) H) (bw ta eV)) σ H (.int xs.length):=fun H1 s Q k =>
 ha H1 s _ fun x' H2 s2 ex=>⟨l,xs.map V.int,by rw[ex],.inl (q.rd ((s.trans s2) _ _ e)),k _ H2 s2 (by rw[List.length_map])⟩
theorem acS{i:Int}{v:V}(ha:Ev ta σ H (.ref l))(e:H l=some lo)(q:RL lo xs)(hb:Ev tb σ H (.int i))(ei:atI (xs.map V.int) i=some v):Ev (tOp (rIx K) ta tb) σ H v:=fun H1 s Q k =>
 ha H1 s _ fun x' H2 s2 ex=>hb H2 (s.trans s2) _ fun y' H3 s3 e3=>.inl ⟨l,xs.map V.int,i,v,ex,e3,q.rd ((s.trans (s2.trans s3)) _ _ e),ei,k _ H3 (s2.trans s3) rfl⟩
theorem ZF{tl th:TE}{a b:Nat}(ha:Ev ta σ H (.ref l))(e:H l=some lo)(q:RL lo xs)(hl:Ev tl σ H (.int (a:Nat)))(hh:Ev th σ H (.int (b:Nat)))(h1:a≤b)(h2:b≤xs.length):EvP (tSl (ad9 K) ta (aa4 tl) (aa4 th)) σ H (IsN H (((xs.drop a).take (b - a)).map V.int)):=fun H1 s1 Q k =>
 ha H1 s1 _ fun v H2 s2 ev=>hl H2 (s1.trans s2) _ fun x H3 s3 ex=>⟨(a:Nat),ex,hh H3 (s1.trans (s2.trans s3)) _ fun y H4 s4 ey=>⟨(b:Nat),ey,l,xs.map V.int,ev,q.rd ((s1.trans (s2.trans (s3.trans s4))) _ _ e),fun p hp=>k _ _ ((s2.trans (s3.trans s4)).trans (jl hp)) ⟨p,rfl,(s1.trans (s2.trans (s3.trans s4))).free hp,by
  rw[aX]
  unfold Zn
  rw[HT.Xd,HT.Xd,List.length_map,Nat.min_eq_left (Nat.le_trans h1 h2),Nat.min_eq_left h2,List.map_take,List.map_drop]⟩⟩⟩
end
def adS(T:Txt K mg):GT:=fun vs H R=>∃r dx l p lo xs,vs=[.ref r]∧Bt T H r dx l p lo∧RL lo xs∧R=fun v _=>v=.bl (decide (xs.length≤p))
theorem BJ(T:Txt K mg):bD P w K mg base CX0 1 T.fj.f T.fj.fd ["self"] (ro (adS T)):=by
 refine cO T.fj.F BL (fun vs H R ⟨_,_,_,_,_,_,e,_⟩=>by rw[e];rfl) fun cdv A outer s H E hr=>⟨_,(az (aC (fL W3 (aD (K:=K) (pv 0) rfl) (bR bB rfl T.jo fX (aj (aD (K:=K) (pv 0) rfl) aq)) (aQ _)))),?_⟩
 rintro vs R ⟨r,dx,l,p,lo,xs,rfl,h,hlo,rfl⟩
 refine aU ((eY (bZ (aa rfl) h.1 T.dz T.eG (RV.Bf _)) (abu (bZ (aa rfl) h.1 T.dz T.jc (RV.Qo _)) h.2 hlo)).cast ?_)
 congr 1
 rw[Bool.eq_iff_iff]
 simp
def adD(T:Txt K mg):Sp:=fun vs H Q _=>∃r dx l p lo xs n,vs=[.ref r]∧Bt T H r dx l p lo∧RL lo xs∧xs[p]?=some n∧∀H',Kp r H H'→Bt T H' r dx l (p+1) lo→Q (.int n) H'
theorem j_(T:Txt K mg):bD P w K mg base CX0 1 T.cG.f T.cG.fd ["self"] (adD T):=by
 refine T.cG.F.ok qK (fun vs H Q E ⟨_,_,_,_,_,_,_,e,_⟩=>by rw[e];rfl) fun cdv A outer s H vs Q E hr hsp=>⟨_,(ak (bu (i:=1) qK.nd rfl (Or.inl rfl) (cZ (bA (K:=K)) (aD (K:=K) (pv 0) rfl) (aD (K:=K) (pv 0) rfl) (fun _ _=>rfl)))
   (ak (uF (pv 0) aH Gk)
   (az (aC (pv 1))))),?_⟩
 obtain⟨r,dx,l,p,lo,xs,n,rfl,h,hlo,hn,k⟩:=hsp
 refine aN (iG (v:=.int n) (acS (K:=K) (bZ (aa rfl) h.1 T.dz T.jc (RV.Qo _)) h.2 hlo (bZ (aa rfl) h.1 T.dz T.eG (RV.Bf _)) ?_) fun H1 s1=>?_)
 ·exact O7 (by rw[List.getElem?_map,hn];rfl)
 (try dsimp only)
 have h1:=h.up s1
 refine aN (GZ aJ (aa rfl) h1.1 T.dz T.eG (RV.few _) (RV.Bf _) fun H2 k2 e2=>?_)
 (try dsimp only)
 rw[RV.W4]at e2
 refine cI (aa rfl) fun v H3 s3 ev=>?_
 subst ev
 exact k H3 ((s1.kp r).trans (k2.trans (s3.kp r))) ⟨s3 _ _ e2,s3 _ _ (k2 _ _ h1.2 (h1.ne hlo))⟩
def aec(T:Txt K mg):Sp:=fun vs H Q _=>∃r dx l p lo xs,∃m:Nat,vs=[.ref r]∧Bt T H r dx l p lo∧RL lo xs∧xs[p]?=some (m:Int)∧p+1+m≤xs.length∧xs.length≤20000 ∧
 ∀H' q,Kp r H H'→H q=none→H' q=some (.lst (((xs.drop (p+1)).take m).map V.int))→Bt T H' r dx l (p+1+m) lo→Q (.ref q) H'
theorem De(T:Txt K mg):bD P w K mg base CX0 2 T.fQ.f T.fQ.fd ["self"] (aec T):=by
 refine T.fQ.F.ok oZ (fun vs H Q E ⟨_,_,_,_,_,_,_,e,_⟩=>by rw[e];rfl) fun cdv A outer s H vs Q E hr hsp=>⟨_,(ak (bu (i:=1) oZ.nd rfl (Or.inl rfl) (Ky (pv 0) T.dz T.cG (j_ T) (by exact hr.mono (by decide))))
   (ak (bu (i:=2) oZ.nd rfl (Or.inl rfl) (aaD ab7 (aD (K:=K) (pv 0) rfl) (W9 (aD (K:=K) (pv 0) rfl)) (W9 (jw z9 (aD (K:=K) (pv 0) rfl) (pv 1)))))
   (ak (uF (pv 0) (pv 1) Gk)
   (az (aC (pv 2)))))),?_⟩
 obtain⟨r,dx,l,p,lo,xs,m,rfl,h,hlo,hn,hle,hxl,k⟩:=hsp
 refine aN ?_
 refine Hg (aa rfl) h.1 (RV.u5 _) aV fun H1 s1=>?_
 refine⟨r,dx,l,p,lo,xs,_,rfl,h.up s1,hlo,hn,fun H2 k2 h2=>?_⟩
 (try dsimp only)
 have cp:EvP _ [some (.ref r),some (.int (m:Nat)),none] H2 (IsN H2 (((xs.drop (p+1)).take (p+1+m - (p+1))).map V.int)) :=
  ZF (K:=K) (ta:=km K (cu 0) "calls") (tl:=km K (cu 0) "place") (th:=tOp (rI0 fun i j=>V.int (i+j)) (km K (cu 0) "place") (cu 1)) (a:=p+1) (b:=p+1+m) (bZ (aa rfl) h2.1 T.dz T.jc (RV.Qo _)) h2.2 hlo (bZ (aa rfl) h2.1 T.dz T.eG (RV.Bf _)) ((eY (bZ (aa rfl) h2.1 T.dz T.eG (RV.Bf _)) (aa rfl)).cast (by congr 1)) (by omega) (by omega)
 refine aN (vC cp ?_)
 rintro v H3 s3 ⟨q,rfl,nq,hq⟩
 (try dsimp only)
 have h3:=h2.up s3
 refine aN (GZ (aa rfl) (aa rfl) h3.1 T.dz T.eG (RV.few _) (RV.Bf _) fun H4 k4 e4=>?_)
 (try dsimp only)
 rw[RV.W4]at e4
 refine cI (aa rfl) fun v H5 s5 ev=>?_
 subst ev
 have nqr:q≠r:=fun z=>by rw[z,h2.1]at nq;cases nq
 refine k H5 q ((s1.kp r).trans (k2.trans ((s3.kp r).trans (k4.trans (s5.kp r))))) ((s1.kp r).trans k2 |>.free h.1 nq h2.1) ?_ ⟨?_,s5 _ _ (k4 _ _ h3.2 (h3.ne hlo))⟩
 ·have:=s5 _ _ (k4 _ _ hq nqr)
  rw[this,show p+1+m - (p+1)=m by omega]
 ·rw[s5 _ _ e4]
  rfl
end
end Jq
end
section
set_option Elab.async false
set_option linter.all false
set_option maxRecDepth 100000
set_option maxHeartbeats 1000000
namespace Jq
open PySem PySem.Spec PyProof.Rows L2
theorem Kv{s:Vbbhaj.State}{n:Int}{f:Vbbhaj.Job→Vbbhaj.State×Vbbhaj.Ans}(h:∀j,(f j).1=s):(Vbbhaj.onJob s n f).1=s:=by
 unfold Vbbhaj.onJob
 split
 ·rfl
 ·split
  ·rfl
  ·exact h _
theorem Wb(s:Vbbhaj.State)(n:Int):(Vbbhaj.step s (.status n)).1=s:=Kv fun _=>rfl
theorem YT(s:Vbbhaj.State)(n:Int):(Vbbhaj.step s (.tests n)).1=s:=Kv fun _=>rfl
theorem YS(s:Vbbhaj.State)(n:Int):(Vbbhaj.step s (.after n)).1=s:=Kv fun _=>rfl
theorem Tr(s:Vbbhaj.State):(Vbbhaj.step s .running).1=s:=rfl
theorem Wa(s:Vbbhaj.State):(Vbbhaj.step s .counts).1=s:=rfl
theorem Nb(s:Vbbhaj.State)(n:Int):(Vbbhaj.step s (.initiator n)).1=s:=by
 show(if Vbbhaj.isInit n=false then Vbbhaj.no s 1 else _).1=s
 split<;>rfl
theorem V_(s:Vbbhaj.State)(n:Int):(Vbbhaj.step s (.class_ n)).1=s:=by
 show(if Vbbhaj.isClass n=false then Vbbhaj.no s 1 else _).1=s
 split<;>rfl
theorem DY{c p h:Int}{b t:List Int}(q:VbbhajNeutral.asked1 [[1,c,p,h],b,t]=true):(b.all fun(z:Int)=>VbbhajNeutral.natural z 8)=true∧b.length≤20000∧t.length≤400:=by
 have q:(VbbhajNeutral.whole64 c&&VbbhajNeutral.whole64 p&&VbbhajNeutral.whole64 h&&(b.all (fun(z:Int)=>VbbhajNeutral.natural z 8)&&decide (b.length≤20000))&&(t.all (fun(z:Int)=>VbbhajNeutral.whole64 z)&&decide (t.length≤400)))=true:=q
 simp only[Bool.and_eq_true,decide_eq_true_eq]at q
 exact⟨q.1.2.1,q.1.2.2,q.2.2⟩
theorem Rb{i:Int}{l:List Int}(q:VbbhajNeutral.asked1 [[11,i],l]=true):l.length≤400:=by
 have q:(VbbhajNeutral.whole64 i&&(l.all (fun(z:Int)=>VbbhajNeutral.whole64 z)&&decide (l.length≤400)))=true:=q
 simp only[Bool.and_eq_true,decide_eq_true_eq]at q
 exact q.2.2
theorem Ra{i:Int}{l:List Int}(q:VbbhajNeutral.asked1 [[12,i],l]=true):l.length≤400:=by
 have q:(VbbhajNeutral.whole64 i&&(l.all (fun(z:Int)=>VbbhajNeutral.whole64 z)&&decide (l.length≤400)))=true:=q
 simp only[Bool.and_eq_true,decide_eq_true_eq]at q
 exact q.2.2
theorem adk{b:List Int}(q:(b.all fun(z:Int)=>VbbhajNeutral.natural z 8)=true):okB b:=fun x hx=>by
 have:=List.all_eq_true.mp q x hx
 unfold VbbhajNeutral.natural at this
 rw[Bool.and_eq_true,decide_eq_true_eq,decide_eq_true_eq]at this
 exact this
section
variable {P:Program}{w:World}{K:PySem.W.Frag}{mg:Str→Option Value}{base:Heap}
variable {σ:St}{H:Hp}{ta tb tc td:TE}{a:Addr}{j:Vbbhaj.Job}{A:Ad}{s:Vbbhaj.State}{T:Txt K mg}{X:Addr→Prop}{D:Ends}
theorem Done.pre{H H':Hp}{x:Vbbhaj.State×Vbbhaj.Ans}{Q:VK}(d:Done T X H A x Q)(s:aY H H'):Done T X H' A x Q:=fun v H'' A' f=>d v H'' A' (s.fix.trans f)
structure Hj(T:Txt K mg)(X:Addr→Prop)(H:Hp)(A:Ad)(s:Vbbhaj.State)(p:Int)(ns:List Int)(rws:List (Addr×List Int))(ln:Addr)(Q:VK):Prop where
 hx:RX T X H A s
 iv:Inv s
 ln:H ln=some (.lst (ns.map V.int))
 sh:PyVbbhaj.shape p=some (ns.length,rws.length)
 as:VbbhajNeutral.asked1 ((p::ns)::rws.map (·.2))=true
 d:∀c,VbbhajNeutral.callOf ((p::ns)::rws.map (·.2))=some c→Done T X H A (Vbbhaj.step s c) Q
theorem Hj.up{H H':Hp}{p:Int}{ns:List Int}{rws:List (Addr×List Int)}{ln:Addr}{Q:VK}(h:Hj T X H A s p ns rws ln Q)(q:aY H H'):Hj T X H' A s p ns rws ln Q:=⟨h.hx.up q,h.iv,q _ _ h.ln,h.sh,h.as,fun c e=>(h.d c e).pre q⟩
theorem Hj.cut{p:Int}{ns:List Int}{rws:List (Addr×List Int)}{ln:Addr}{Q:VK}{n k:Nat}(h:Hj T X H A s p ns rws ln Q)(e:PyVbbhaj.shape p=some (n,k)):ns.length=n∧rws.length=k:=by
 have:=h.sh.symm.trans e
 exact⟨congrArg Prod.fst (Option.some.inj this),congrArg Prod.snd (Option.some.inj this)⟩
def Cr(H:Hp)(lr:Addr)(rws:List (Addr×List Int)):Prop:=H lr=some (.lst (rws.map fun r=>V.ref r.1))∧∀r∈rws,H r.1=some (.lst (r.2.map V.int))
theorem Cr.up{H H':Hp}{lr:Addr}{rws:List (Addr×List Int)}(h:Cr H lr rws)(s:aY H H'):Cr H' lr rws:=⟨s _ _ h.1,fun r hr=>s _ _ (h.2 r hr)⟩
def aaS(T:Txt K mg)(lo hi:Int):Sp:=fun vs H Q _=>∃X A s p ns rws ln,vs=[.ref A.b,.int p,.ref ln]∧(lo≤p∧p≤hi)∧Hj T X H A s p ns rws ln Q
def aaT(T:Txt K mg)(lo hi:Int):Sp:=fun vs H Q _=>∃X A s p ns rws ln lr,vs=[.ref A.b,.int p,.ref ln,.ref lr]∧(lo≤p∧p≤hi)∧Hj T X H A s p ns rws ln Q∧Cr H lr rws
theorem Ia{mk:Int→Vbbhaj.Call}{ln:Addr}{n:Int}(v0:σ[0]?=some (some (.ref A.b)))(v2:σ[2]?=some (some (.ref ln)))(hl:H ln=some (.lst ([n].map V.int)))(hx:RX T X H A s)(iv:Inv s)(d:Done T X H A (Vbbhaj.step s (mk n)) D.rt) :
  Lq (fH (spC T (dI mk)) [] E0 (bw (cu 0) (bw (tOp (rIx K) (cu 2) (tC (.int 0))) eV))) D σ H :=
 mX (aB (aa v0) (aB (qJ ((aa v2).toL hl) aJ rfl) aV)) fun H' s'=>⟨X,A,s,mk n,[.int n],rfl,⟨n,rfl,rfl⟩,hx.up s',iv,d.pre s'⟩
theorem adM{mk:Int→Int→Vbbhaj.Call}{ln:Addr}{n m:Int}(v0:σ[0]?=some (some (.ref A.b)))(v2:σ[2]?=some (some (.ref ln)))(hl:H ln=some (.lst ([n,m].map V.int)))(hx:RX T X H A s)(iv:Inv s)(d:Done T X H A (Vbbhaj.step s (mk n m)) D.rt) :
  Lq (fH (spC T (dII mk)) [] E0 (bw (cu 0) (bw (tOp (rIx K) (cu 2) (tC (.int 0))) (bw (tOp (rIx K) (cu 2) (tC (.int 1))) eV)))) D σ H :=
 mX (aB (aa v0) (aB (qJ ((aa v2).toL hl) aJ rfl) (aB (qJ ((aa v2).toL hl) aJ rfl) aV))) fun H' s'=>⟨X,A,s,mk n m,_,rfl,⟨n,m,rfl,rfl⟩,hx.up s',iv,d.pre s'⟩
theorem Ur{mk:Int→Int→Int→Vbbhaj.Call}{ln:Addr}{n m k:Int}(v0:σ[0]?=some (some (.ref A.b)))(v2:σ[2]?=some (some (.ref ln)))(hl:H ln=some (.lst ([n,m,k].map V.int)))(hx:RX T X H A s)(iv:Inv s)(d:Done T X H A (Vbbhaj.step s (mk n m k)) D.rt) :
  Lq (fH (spC T (abr mk)) [] E0 (bw (cu 0) (bw (tOp (rIx K) (cu 2) (tC (.int 0))) (bw (tOp (rIx K) (cu 2) (tC (.int 1))) (bw (tOp (rIx K) (cu 2) (tC (.int 2))) eV))))) D σ H :=
 mX (aB (aa v0) (aB (qJ ((aa v2).toL hl) aJ rfl) (aB (qJ ((aa v2).toL hl) aJ rfl) (aB (qJ ((aa v2).toL hl) aJ rfl) aV)))) fun H' s'=>⟨X,A,s,mk n m k,_,rfl,⟨n,m,k,rfl,rfl⟩,hx.up s',iv,d.pre s'⟩
theorem ace{mk:Int→List Int→Vbbhaj.Call}{ln lr:Addr}{n:Int}{r:Addr×List Int}(v0:σ[0]?=some (some (.ref A.b)))(v2:σ[2]?=some (some (.ref ln)))(v3:σ[3]?=some (some (.ref lr)))(hl:H ln=some (.lst ([n].map V.int)))(hr:Cr H lr [r])(hx:RX T X H A s)(iv:Inv s)(hz:r.2.length≤400)(d:Done T X H A (Vbbhaj.step s (mk n r.2)) D.rt) :
  Lq (fH (spC T (dIL mk)) [] E0 (bw (cu 0) (bw (tOp (rIx K) (cu 2) (tC (.int 0))) (bw (tOp (rIx K) (cu 3) (tC (.int 0))) eV)))) D σ H :=
 mX (aB (aa v0) (aB (qJ ((aa v2).toL hl) aJ rfl) (aB (qJ ((aa v3).toL hr.1) aJ rfl) aV))) fun H' s'=>⟨X,A,s,mk n r.2,_,rfl,⟨n,r.1,r.2,rfl,s' _ _ (hr.2 r List.mem_cons_self),hz,rfl⟩,hx.up s',iv,d.pre s'⟩
theorem aem{ln lr:Addr}{x y z:Int}{r t:Addr×List Int}(v0:σ[0]?=some (some (.ref A.b)))(v2:σ[2]?=some (some (.ref ln)))(v3:σ[3]?=some (some (.ref lr)))(hl:H ln=some (.lst ([x,y,z].map V.int)))(hr:Cr H lr [r,t])(hx:RX T X H A s)(iv:Inv s)(hz:(r.2.all fun(z:Int)=>VbbhajNeutral.natural z 8)=true∧r.2.length≤20000∧t.2.length≤400)(d:Done T X H A (Vbbhaj.step s (.submit x y z (bytesOf r.2) t.2)) D.rt) :
  Lq (fH (spC T dS) [] E0 (bw (cu 0) (bw (tOp (rIx K) (cu 2) (tC (.int 0))) (bw (tOp (rIx K) (cu 2) (tC (.int 1))) (bw (tOp (rIx K) (cu 2) (tC (.int 2))) (bw (tOp (rIx K) (cu 3) (tC (.int 0))) (bw (tOp (rIx K) (cu 3) (tC (.int 1))) eV))))))) D σ H :=
 mX (aB (aa v0) (aB (qJ ((aa v2).toL hl) aJ rfl) (aB (qJ ((aa v2).toL hl) aJ rfl) (aB (qJ ((aa v2).toL hl) aJ rfl) (aB (qJ ((aa v3).toL hr.1) aJ rfl) (aB (qJ ((aa v3).toL hr.1) aJ rfl) aV)))))) fun H' s' =>
  ⟨X,A,s,_,_,rfl,⟨x,y,z,r.1,t.1,r.2,t.2,rfl,s' _ _ (hr.2 r List.mem_cons_self),by omega,s' _ _ (hr.2 t (List.mem_cons_of_mem _ List.mem_cons_self)),hz.2.2,adk hz.1,rfl⟩,hx.up s',iv,d.pre s'⟩
theorem Ro{mk:Int→Vbbhaj.Call}{ln:Addr}{n:Int}(v0:σ[0]?=some (some (.ref A.b)))(v2:σ[2]?=some (some (.ref ln)))(hl:H ln=some (.lst ([n].map V.int)))(hx:RX T X H A s)(iv:Inv s)(hs:(Vbbhaj.step s (mk n)).1=s)(d:Done T X H A (Vbbhaj.step s (mk n)) D.rt) :
  Lq (fH (ro (gQ1 T mk)) [] E0 (bw (cu 0) (bw (tOp (rIx K) (cu 2) (tC (.int 0))) eV))) D σ H :=
 cI (nQ (G:=gQ1 T mk) (R:=IsL (vO (Vbbhaj.step s (mk n)).2)) (aB (aa v0) (aB (qJ ((aa v2).toL hl) aJ rfl) aV)) fun H1 s1=>⟨A,s,n,rfl,hx.rep.up s1,iv,rfl⟩) fun v H' s' l=>d v H' A s'.fix rfl (by rw[hs];exact hx.up s') l
theorem acf{c:Vbbhaj.Call}(v0:σ[0]?=some (some (.ref A.b)))(hx:RX T X H A s)(iv:Inv s)(hs:(Vbbhaj.step s c).1=s)(d:Done T X H A (Vbbhaj.step s c) D.rt) :
  Lq (fH (ro (gQ0 T c)) [] E0 (bw (cu 0) eV)) D σ H :=
 cI (nQ (G:=gQ0 T c) (R:=IsL (vO (Vbbhaj.step s c).2)) (aB (aa v0) aV) fun H1 s1=>⟨A,s,rfl,hx.rep.up s1,iv,rfl⟩) fun v H' s' l=>d v H' A s'.fix rfl (by rw[hs];exact hx.up s') l
theorem Ew(T:Txt K mg):bD P w K mg base CX0 6 T.gF.f T.gF.fd ["board","call","numbers","rows"] (aaT T 0 7):=by
 refine T.gF.F.ok Fg (fun vs H Q E ⟨_,_,_,_,_,_,_,_,e,_⟩=>by rw[e];rfl) fun cdv A outer s H vs Q E hr hsp=>⟨_,(ak (a_ (aR dm (pv 1) (bz T.Pk rfl) (aQ _)) (az (aC (aK T.Ay (aak T) (by exact hr.mono (by decide)) rfl (aj (pv 0) (aj (cZ (bA (K:=K)) (pv 2) aH (fun _ _=>rfl)) (aj (cZ (bA (K:=K)) (pv 2) aH (fun _ _=>rfl)) (aj (cZ (bA (K:=K)) (pv 2) aH (fun _ _=>rfl)) aq))))))) aL)
   (ak (a_ (aR dm (pv 1) (bz T.JG rfl) (aQ _)) (az (aC (aK T.xg (Yx T) (by exact hr.mono (by decide)) rfl (aj (pv 0) (aj (cZ (bA (K:=K)) (pv 2) aH (fun _ _=>rfl)) (aj (cZ (bA (K:=K)) (pv 2) aH (fun _ _=>rfl)) (aj (cZ (bA (K:=K)) (pv 2) aH (fun _ _=>rfl)) (aj (cZ (bA (K:=K)) (pv 3) aH (fun _ _=>rfl)) (aj (cZ (bA (K:=K)) (pv 3) aH (fun _ _=>rfl)) aq))))))))) aL)
   (ak (a_ (aR dm (pv 1) (bz T.Ut rfl) (aQ _)) (az (aC (aK T.F_ (abN T) (by exact hr.mono (by decide)) rfl (aj (pv 0) (aj (cZ (bA (K:=K)) (pv 2) aH (fun _ _=>rfl)) aq))))) aL)
   (ak (a_ (aR dm (pv 1) (bz T.Pr rfl) (aQ _)) (az (aC (aK T.A_ (aam T) (by exact hr.mono (by decide)) rfl (aj (pv 0) (aj (cZ (bA (K:=K)) (pv 2) aH (fun _ _=>rfl)) aq))))) aL)
   (ak (a_ (aR dm (pv 1) (bz T.Jz rfl) (aQ _)) (az (aC (aK T.wX (Ys T) (by exact hr.mono (by decide)) rfl (aj (pv 0) (aj (cZ (bA (K:=K)) (pv 2) aH (fun _ _=>rfl)) (aj (cZ (bA (K:=K)) (pv 2) aH (fun _ _=>rfl)) (aj (cZ (bA (K:=K)) (pv 2) aH (fun _ _=>rfl)) aq))))))) aL)
   (ak (a_ (aR dm (pv 1) (bz T.Jy rfl) (aQ _)) (az (aC (aK T.wW (Yr T) (by exact hr.mono (by decide)) rfl (aj (pv 0) (aj (cZ (bA (K:=K)) (pv 2) aH (fun _ _=>rfl)) aq))))) aL)
   (ak (a_ (aR dm (pv 1) (bz T.JD rfl) (aQ _)) (az (aC (aK T.wZ (Yu T) (by exact hr.mono (by decide)) rfl (aj (pv 0) (aj (cZ (bA (K:=K)) (pv 2) aH (fun _ _=>rfl)) aq))))) aL)
   (az (aC (aK T.Gh (abS T) (by exact hr.mono (by decide)) rfl (aj (pv 0) (aj (cZ (bA (K:=K)) (pv 2) aH (fun _ _=>rfl)) aq)))))))))))),?_⟩
 obtain⟨X,A,s,p,ns,rws,ln,lr,rfl,⟨hlo,hhi⟩,h,hrw⟩:=hsp
 refine cU (aP (bY (aa rfl) aJ)) (fun q H1 s1=>?_) fun q0 H10 s1=>?_
 ·have q:p=0:=of_decide_eq_true q
  subst q
  replace h:=h.up s1
  replace hrw:=hrw.up s1
  obtain⟨e1,e2⟩:=h.cut (n:=3) (k:=0) rfl
  obtain⟨x,y,z,rfl⟩:=list_3 e1
  obtain rfl:=List.length_eq_zero_iff.mp e2
  exact Ur rfl rfl h.ln h.hx h.iv (h.d _ rfl)
 replace h:=h.up s1
 replace hrw:=hrw.up s1
 have q0:¬p=0:=of_decide_eq_false q0
 clear s1
 refine cU (aP (bY (aa rfl) aJ)) (fun q H1 s1=>?_) fun q1 H11 s1=>?_
 ·have q:p=1:=of_decide_eq_true q
  subst q
  replace h:=h.up s1
  replace hrw:=hrw.up s1
  obtain⟨e1,e2⟩:=h.cut (n:=3) (k:=2) rfl
  obtain⟨x,y,z,rfl⟩:=list_3 e1
  obtain⟨r,t,rfl⟩:=list_2 e2
  exact aem rfl rfl rfl h.ln hrw h.hx h.iv (DY h.as) (h.d _ (Hl (DY h.as).1))
 replace h:=h.up s1
 replace hrw:=hrw.up s1
 have q1:¬p=1:=of_decide_eq_false q1
 clear s1
 refine cU (aP (bY (aa rfl) aJ)) (fun q H1 s1=>?_) fun q2 H12 s1=>?_
 ·have q:p=2:=of_decide_eq_true q
  subst q
  replace h:=h.up s1
  replace hrw:=hrw.up s1
  obtain⟨e1,e2⟩:=h.cut (n:=1) (k:=0) rfl
  obtain⟨x,rfl⟩:=list_1 e1
  obtain rfl:=List.length_eq_zero_iff.mp e2
  exact Ia rfl rfl h.ln h.hx h.iv (h.d _ rfl)
 replace h:=h.up s1
 replace hrw:=hrw.up s1
 have q2:¬p=2:=of_decide_eq_false q2
 clear s1
 refine cU (aP (bY (aa rfl) aJ)) (fun q H1 s1=>?_) fun q3 H13 s1=>?_
 ·have q:p=3:=of_decide_eq_true q
  subst q
  replace h:=h.up s1
  replace hrw:=hrw.up s1
  obtain⟨e1,e2⟩:=h.cut (n:=1) (k:=0) rfl
  obtain⟨x,rfl⟩:=list_1 e1
  obtain rfl:=List.length_eq_zero_iff.mp e2
  exact Ia rfl rfl h.ln h.hx h.iv (h.d _ rfl)
 replace h:=h.up s1
 replace hrw:=hrw.up s1
 have q3:¬p=3:=of_decide_eq_false q3
 clear s1
 refine cU (aP (bY (aa rfl) aJ)) (fun q H1 s1=>?_) fun q4 H14 s1=>?_
 ·have q:p=4:=of_decide_eq_true q
  subst q
  replace h:=h.up s1
  replace hrw:=hrw.up s1
  obtain⟨e1,e2⟩:=h.cut (n:=3) (k:=0) rfl
  obtain⟨x,y,z,rfl⟩:=list_3 e1
  obtain rfl:=List.length_eq_zero_iff.mp e2
  exact Ur rfl rfl h.ln h.hx h.iv (h.d _ rfl)
 replace h:=h.up s1
 replace hrw:=hrw.up s1
 have q4:¬p=4:=of_decide_eq_false q4
 clear s1
 refine cU (aP (bY (aa rfl) aJ)) (fun q H1 s1=>?_) fun q5 H15 s1=>?_
 ·have q:p=5:=of_decide_eq_true q
  subst q
  replace h:=h.up s1
  replace hrw:=hrw.up s1
  obtain⟨e1,e2⟩:=h.cut (n:=1) (k:=0) rfl
  obtain⟨x,rfl⟩:=list_1 e1
  obtain rfl:=List.length_eq_zero_iff.mp e2
  exact Ia rfl rfl h.ln h.hx h.iv (h.d _ rfl)
 replace h:=h.up s1
 replace hrw:=hrw.up s1
 have q5:¬p=5:=of_decide_eq_false q5
 clear s1
 refine cU (aP (bY (aa rfl) aJ)) (fun q H1 s1=>?_) fun q6 H16 s1=>?_
 ·have q:p=6:=of_decide_eq_true q
  subst q
  replace h:=h.up s1
  replace hrw:=hrw.up s1
  obtain⟨e1,e2⟩:=h.cut (n:=1) (k:=0) rfl
  obtain⟨x,rfl⟩:=list_1 e1
  obtain rfl:=List.length_eq_zero_iff.mp e2
  exact Ia rfl rfl h.ln h.hx h.iv (h.d _ rfl)
 replace h:=h.up s1
 replace hrw:=hrw.up s1
 have q6:¬p=6:=of_decide_eq_false q6
 clear s1
 have q:p=7:=by omega
 subst q
 obtain⟨e1,e2⟩:=h.cut (n:=1) (k:=0) rfl
 obtain⟨x,rfl⟩:=list_1 e1
 obtain rfl:=List.length_eq_zero_iff.mp e2
 exact Ia rfl rfl h.ln h.hx h.iv (h.d _ rfl)
theorem zU(T:Txt K mg):bD P w K mg base CX0 4 T.eO.f T.eO.fd ["board","call","numbers"] (aaS T 8 10):=by
 refine T.eO.F.ok Ab (fun vs H Q E ⟨_,_,_,_,_,_,_,e,_⟩=>by rw[e];rfl) fun cdv A outer s H vs Q E hr hsp=>⟨_,(ak (a_ (aR dm (pv 1) (bz T.Pu rfl) (aQ _)) (az (aC (aK T.jU (Kr T) (by exact hr.mono (by decide)) rfl (aj (pv 0) (aj (cZ (bA (K:=K)) (pv 2) aH (fun _ _=>rfl)) (aj (cZ (bA (K:=K)) (pv 2) aH (fun _ _=>rfl)) aq)))))) aL)
   (ak (a_ (aR dm (pv 1) (bz T.Pn rfl) (aQ _)) (az (aC (aK T.jT (Kl T) (by exact hr.mono (by decide)) rfl (aj (pv 0) (aj (cZ (bA (K:=K)) (pv 2) aH (fun _ _=>rfl)) aq))))) aL)
   (az (aC (aK T.mC (MF T) (by exact hr.mono (by decide)) rfl (aj (pv 0) (aj (cZ (bA (K:=K)) (pv 2) aH (fun _ _=>rfl)) aq))))))),?_⟩
 obtain⟨X,A,s,p,ns,rws,ln,rfl,⟨hlo,hhi⟩,h⟩:=hsp
 refine cU (aP (bY (aa rfl) aJ)) (fun q H1 s1=>?_) fun q0 H10 s1=>?_
 ·have q:p=8:=of_decide_eq_true q
  subst q
  replace h:=h.up s1
  obtain⟨e1,e2⟩:=h.cut (n:=2) (k:=0) rfl
  obtain⟨x,y,rfl⟩:=list_2 e1
  obtain rfl:=List.length_eq_zero_iff.mp e2
  exact adM rfl rfl h.ln h.hx h.iv (h.d _ rfl)
 replace h:=h.up s1
 have q0:¬p=8:=of_decide_eq_false q0
 clear s1
 refine cU (aP (bY (aa rfl) aJ)) (fun q H1 s1=>?_) fun q1 H11 s1=>?_
 ·have q:p=9:=of_decide_eq_true q
  subst q
  replace h:=h.up s1
  obtain⟨e1,e2⟩:=h.cut (n:=1) (k:=0) rfl
  obtain⟨x,rfl⟩:=list_1 e1
  obtain rfl:=List.length_eq_zero_iff.mp e2
  exact Ia rfl rfl h.ln h.hx h.iv (h.d _ rfl)
 replace h:=h.up s1
 have q1:¬p=9:=of_decide_eq_false q1
 clear s1
 have q:p=10:=by omega
 subst q
 obtain⟨e1,e2⟩:=h.cut (n:=1) (k:=0) rfl
 obtain⟨x,rfl⟩:=list_1 e1
 obtain rfl:=List.length_eq_zero_iff.mp e2
 exact Ia rfl rfl h.ln h.hx h.iv (h.d _ rfl)
theorem xu(T:Txt K mg)(L:LK T base):bD P w K mg base CX0 6 T.dg.f T.dg.fd ["board","call","numbers","rows"] (aaT T 11 17):=by
 refine T.dg.F.ok xJ (fun vs H Q E ⟨_,_,_,_,_,_,_,_,e,_⟩=>by rw[e];rfl) fun cdv A outer s H vs Q E hr hsp=>⟨_,(ak (a_ (aR dm (pv 1) (bz T.Pz rfl) (aQ _)) (az (aC (aK T.Bb (aao T) (by exact hr.mono (by decide)) rfl (aj (pv 0) (aj (cZ (bA (K:=K)) (pv 2) aH (fun _ _=>rfl)) (aj (cZ (bA (K:=K)) (pv 3) aH (fun _ _=>rfl)) aq)))))) aL)
   (ak (a_ (aR dm (pv 1) (bz T.Py rfl) (aQ _)) (az (aC (aK T.Ba (aan T) (by exact hr.mono (by decide)) rfl (aj (pv 0) (aj (cZ (bA (K:=K)) (pv 2) aH (fun _ _=>rfl)) (aj (cZ (bA (K:=K)) (pv 3) aH (fun _ _=>rfl)) aq)))))) aL)
   (ak (a_ (aR dm (pv 1) (bz T.Pq rfl) (aQ _)) (az (aC (aK T.Az (aal T) (by exact hr.mono (by decide)) rfl (aj (pv 0) (aj (cZ (bA (K:=K)) (pv 2) aH (fun _ _=>rfl)) aq))))) aL)
   (ak (a_ (aR dm (pv 1) (bz T.Uw rfl) (aQ _)) (az (aC (aK T.Gg (abR T L) (by exact hr.mono (by decide)) rfl (aj (pv 0) (aj (cZ (bA (K:=K)) (pv 2) aH (fun _ _=>rfl)) aq))))) aL)
   (ak (a_ (aR dm (pv 1) (bz T.Uv rfl) (aQ _)) (az (aC (aK T.Gf (abQ T L) (by exact hr.mono (by decide)) rfl (aj (pv 0) (aj (cZ (bA (K:=K)) (pv 2) aH (fun _ _=>rfl)) aq))))) aL)
   (ak (a_ (aR dm (pv 1) (bz T.JC rfl) (aQ _)) (az (aC (aK T.wY (Yt T) (by exact hr.mono (by decide)) rfl (aj (pv 0) (aj (cZ (bA (K:=K)) (pv 2) aH (fun _ _=>rfl)) (aj (cZ (bA (K:=K)) (pv 2) aH (fun _ _=>rfl)) (aj (cZ (bA (K:=K)) (pv 2) aH (fun _ _=>rfl)) aq))))))) aL)
   (az (aC (aK T.uB (Vt T) (by exact hr.mono (by decide)) rfl (aj (pv 0) (aj (cZ (bA (K:=K)) (pv 2) aH (fun _ _=>rfl)) aq))))))))))),?_⟩
 obtain⟨X,A,s,p,ns,rws,ln,lr,rfl,⟨hlo,hhi⟩,h,hrw⟩:=hsp
 refine cU (aP (bY (aa rfl) aJ)) (fun q H1 s1=>?_) fun q0 H10 s1=>?_
 ·have q:p=11:=of_decide_eq_true q
  subst q
  replace h:=h.up s1
  replace hrw:=hrw.up s1
  obtain⟨e1,e2⟩:=h.cut (n:=1) (k:=1) rfl
  obtain⟨x,rfl⟩:=list_1 e1
  obtain⟨r,rfl⟩:=list_1 e2
  exact ace rfl rfl rfl h.ln hrw h.hx h.iv (Rb h.as) (h.d _ rfl)
 replace h:=h.up s1
 replace hrw:=hrw.up s1
 have q0:¬p=11:=of_decide_eq_false q0
 clear s1
 refine cU (aP (bY (aa rfl) aJ)) (fun q H1 s1=>?_) fun q1 H11 s1=>?_
 ·have q:p=12:=of_decide_eq_true q
  subst q
  replace h:=h.up s1
  replace hrw:=hrw.up s1
  obtain⟨e1,e2⟩:=h.cut (n:=1) (k:=1) rfl
  obtain⟨x,rfl⟩:=list_1 e1
  obtain⟨r,rfl⟩:=list_1 e2
  exact ace rfl rfl rfl h.ln hrw h.hx h.iv (Ra h.as) (h.d _ rfl)
 replace h:=h.up s1
 replace hrw:=hrw.up s1
 have q1:¬p=12:=of_decide_eq_false q1
 clear s1
 refine cU (aP (bY (aa rfl) aJ)) (fun q H1 s1=>?_) fun q2 H12 s1=>?_
 ·have q:p=13:=of_decide_eq_true q
  subst q
  replace h:=h.up s1
  replace hrw:=hrw.up s1
  obtain⟨e1,e2⟩:=h.cut (n:=1) (k:=0) rfl
  obtain⟨x,rfl⟩:=list_1 e1
  obtain rfl:=List.length_eq_zero_iff.mp e2
  exact Ia rfl rfl h.ln h.hx h.iv (h.d _ rfl)
 replace h:=h.up s1
 replace hrw:=hrw.up s1
 have q2:¬p=13:=of_decide_eq_false q2
 clear s1
 refine cU (aP (bY (aa rfl) aJ)) (fun q H1 s1=>?_) fun q3 H13 s1=>?_
 ·have q:p=14:=of_decide_eq_true q
  subst q
  replace h:=h.up s1
  replace hrw:=hrw.up s1
  obtain⟨e1,e2⟩:=h.cut (n:=1) (k:=0) rfl
  obtain⟨x,rfl⟩:=list_1 e1
  obtain rfl:=List.length_eq_zero_iff.mp e2
  exact Ia rfl rfl h.ln h.hx h.iv (h.d _ rfl)
 replace h:=h.up s1
 replace hrw:=hrw.up s1
 have q3:¬p=14:=of_decide_eq_false q3
 clear s1
 refine cU (aP (bY (aa rfl) aJ)) (fun q H1 s1=>?_) fun q4 H14 s1=>?_
 ·have q:p=15:=of_decide_eq_true q
  subst q
  replace h:=h.up s1
  replace hrw:=hrw.up s1
  obtain⟨e1,e2⟩:=h.cut (n:=1) (k:=0) rfl
  obtain⟨x,rfl⟩:=list_1 e1
  obtain rfl:=List.length_eq_zero_iff.mp e2
  exact Ia rfl rfl h.ln h.hx h.iv (h.d _ rfl)
 replace h:=h.up s1
 replace hrw:=hrw.up s1
 have q4:¬p=15:=of_decide_eq_false q4
 clear s1
 refine cU (aP (bY (aa rfl) aJ)) (fun q H1 s1=>?_) fun q5 H15 s1=>?_
 ·have q:p=16:=of_decide_eq_true q
  subst q
  replace h:=h.up s1
  replace hrw:=hrw.up s1
  obtain⟨e1,e2⟩:=h.cut (n:=3) (k:=0) rfl
  obtain⟨x,y,z,rfl⟩:=list_3 e1
  obtain rfl:=List.length_eq_zero_iff.mp e2
  exact Ur rfl rfl h.ln h.hx h.iv (h.d _ rfl)
 replace h:=h.up s1
 replace hrw:=hrw.up s1
 have q5:¬p=16:=of_decide_eq_false q5
 clear s1
 have q:p=17:=by omega
 subst q
 obtain⟨e1,e2⟩:=h.cut (n:=1) (k:=0) rfl
 obtain⟨x,rfl⟩:=list_1 e1
 obtain rfl:=List.length_eq_zero_iff.mp e2
 exact Ia rfl rfl h.ln h.hx h.iv (h.d _ rfl)
theorem Df(T:Txt K mg)(L:LK T base):bD P w K mg base CX0 6 T.fU.f T.fU.fd ["board","call","numbers"] (aaS T 18 25):=by
 refine T.fU.F.ok Dq (fun vs H Q E ⟨_,_,_,_,_,_,_,e,_⟩=>by rw[e];rfl) fun cdv A outer s H vs Q E hr hsp=>⟨_,(ak (a_ (aR dm (pv 1) (bz T.Px rfl) (aQ _)) (az (aC (aK T.fJ (MN T L) (by exact hr.mono (by decide)) rfl (aj (pv 0) (aj (cZ (bA (K:=K)) (pv 2) aH (fun _ _=>rfl)) aq))))) aL)
   (ak (a_ (aR dm (pv 1) (bz T.JF rfl) (aQ _)) (az (aC (aK T.jW (Ku T) (by exact hr.mono (by decide)) rfl (aj (pv 0) (aj (cZ (bA (K:=K)) (pv 2) aH (fun _ _=>rfl)) aq))))) aL)
   (ak (a_ (aR dm (pv 1) (bz T.PB rfl) (aQ _)) (az (aC (aK T.mH (MP T) (by exact hr.mono (by decide)) rfl (aj (pv 0) (aj (cZ (bA (K:=K)) (pv 2) aH (fun _ _=>rfl)) aq))))) aL)
   (ak (a_ (aR dm (pv 1) (bz T.Pj rfl) (aQ _)) (az (aC (aK T.mF (MJ T) (by exact hr.mono (by decide)) rfl (aj (pv 0) (aj (cZ (bA (K:=K)) (pv 2) aH (fun _ _=>rfl)) aq))))) aL)
   (ak (a_ (aR dm (pv 1) (bz T.uJ rfl) (aQ _)) (az (aC (aK T.iW (Ik T) (by exact hr.mono (by decide)) rfl (aj (pv 0) aq)))) aL)
   (ak (a_ (aR dm (pv 1) (bz T.JB rfl) (aQ _)) (az (aC (aK T.jV (Ks T) (by exact hr.mono (by decide)) rfl (aj (pv 0) aq)))) aL)
   (ak (a_ (aR dm (pv 1) (bz T.zm rfl) (aQ _)) (az (aC (aK T.gG (Ez T) (by exact hr.mono (by decide)) rfl (aj (pv 0) (aj (cZ (bA (K:=K)) (pv 2) aH (fun _ _=>rfl)) aq))))) aL)
   (az (aC (aK T.mG (MK T) (by exact hr.mono (by decide)) rfl (aj (pv 0) (aj (cZ (bA (K:=K)) (pv 2) aH (fun _ _=>rfl)) aq)))))))))))),?_⟩
 obtain⟨X,A,s,p,ns,rws,ln,rfl,⟨hlo,hhi⟩,h⟩:=hsp
 refine cU (aP (bY (aa rfl) aJ)) (fun q H1 s1=>?_) fun q0 H10 s1=>?_
 ·have q:p=18:=of_decide_eq_true q
  subst q
  replace h:=h.up s1
  obtain⟨e1,e2⟩:=h.cut (n:=1) (k:=0) rfl
  obtain⟨x,rfl⟩:=list_1 e1
  obtain rfl:=List.length_eq_zero_iff.mp e2
  exact Ia rfl rfl h.ln h.hx h.iv (h.d _ rfl)
 replace h:=h.up s1
 have q0:¬p=18:=of_decide_eq_false q0
 clear s1
 refine cU (aP (bY (aa rfl) aJ)) (fun q H1 s1=>?_) fun q1 H11 s1=>?_
 ·have q:p=19:=of_decide_eq_true q
  subst q
  replace h:=h.up s1
  obtain⟨e1,e2⟩:=h.cut (n:=1) (k:=0) rfl
  obtain⟨x,rfl⟩:=list_1 e1
  obtain rfl:=List.length_eq_zero_iff.mp e2
  exact Ro rfl rfl h.ln h.hx h.iv (Wb s x) (h.d _ rfl)
 replace h:=h.up s1
 have q1:¬p=19:=of_decide_eq_false q1
 clear s1
 refine cU (aP (bY (aa rfl) aJ)) (fun q H1 s1=>?_) fun q2 H12 s1=>?_
 ·have q:p=20:=of_decide_eq_true q
  subst q
  replace h:=h.up s1
  obtain⟨e1,e2⟩:=h.cut (n:=1) (k:=0) rfl
  obtain⟨x,rfl⟩:=list_1 e1
  obtain rfl:=List.length_eq_zero_iff.mp e2
  exact Ro rfl rfl h.ln h.hx h.iv (YT s x) (h.d _ rfl)
 replace h:=h.up s1
 have q2:¬p=20:=of_decide_eq_false q2
 clear s1
 refine cU (aP (bY (aa rfl) aJ)) (fun q H1 s1=>?_) fun q3 H13 s1=>?_
 ·have q:p=21:=of_decide_eq_true q
  subst q
  replace h:=h.up s1
  obtain⟨e1,e2⟩:=h.cut (n:=1) (k:=0) rfl
  obtain⟨x,rfl⟩:=list_1 e1
  obtain rfl:=List.length_eq_zero_iff.mp e2
  exact Ro rfl rfl h.ln h.hx h.iv (YS s x) (h.d _ rfl)
 replace h:=h.up s1
 have q3:¬p=21:=of_decide_eq_false q3
 clear s1
 refine cU (aP (bY (aa rfl) aJ)) (fun q H1 s1=>?_) fun q4 H14 s1=>?_
 ·have q:p=22:=of_decide_eq_true q
  subst q
  replace h:=h.up s1
  obtain⟨e1,e2⟩:=h.cut (n:=0) (k:=0) rfl
  obtain rfl:=List.length_eq_zero_iff.mp e1
  obtain rfl:=List.length_eq_zero_iff.mp e2
  exact acf rfl h.hx h.iv (Tr s) (h.d _ rfl)
 replace h:=h.up s1
 have q4:¬p=22:=of_decide_eq_false q4
 clear s1
 refine cU (aP (bY (aa rfl) aJ)) (fun q H1 s1=>?_) fun q5 H15 s1=>?_
 ·have q:p=23:=of_decide_eq_true q
  subst q
  replace h:=h.up s1
  obtain⟨e1,e2⟩:=h.cut (n:=0) (k:=0) rfl
  obtain rfl:=List.length_eq_zero_iff.mp e1
  obtain rfl:=List.length_eq_zero_iff.mp e2
  exact acf rfl h.hx h.iv (Wa s) (h.d _ rfl)
 replace h:=h.up s1
 have q5:¬p=23:=of_decide_eq_false q5
 clear s1
 refine cU (aP (bY (aa rfl) aJ)) (fun q H1 s1=>?_) fun q6 H16 s1=>?_
 ·have q:p=24:=of_decide_eq_true q
  subst q
  replace h:=h.up s1
  obtain⟨e1,e2⟩:=h.cut (n:=1) (k:=0) rfl
  obtain⟨x,rfl⟩:=list_1 e1
  obtain rfl:=List.length_eq_zero_iff.mp e2
  exact Ro rfl rfl h.ln h.hx h.iv (Nb s x) (h.d _ rfl)
 replace h:=h.up s1
 have q6:¬p=24:=of_decide_eq_false q6
 clear s1
 have q:p=25:=by omega
 subst q
 obtain⟨e1,e2⟩:=h.cut (n:=1) (k:=0) rfl
 obtain⟨x,rfl⟩:=list_1 e1
 obtain rfl:=List.length_eq_zero_iff.mp e2
 exact Ro rfl rfl h.ln h.hx h.iv (V_ s x) (h.d _ rfl)
end
end Jq
end
section
set_option Elab.async false
set_option linter.all false
set_option maxRecDepth 100000
set_option maxHeartbeats 1000000
namespace Jq
open PySem PySem.Spec PyProof.Rows L2
theorem drop_cons{xs r:List Int}{p:Nat}{q:Int}(h:xs.drop p=q::r):xs[p]?=some q∧xs.drop (p+1)=r∧p<xs.length:=by
 have hl:p<xs.length:=by
  have:=congrArg List.length h
  rw[List.length_drop,List.length_cons]at this
  omega
 rw[List.drop_eq_getElem_cons hl]at h
 injection h with h1 h2
 exact⟨by rw[List.getElem?_eq_getElem hl,h1],h2,hl⟩
section
variable {P:Program}{w:World}{K:PySem.W.Frag}{mg:Str→Option Value}{base:Heap}
variable {σ:St}{H:Hp}{ta tb tc td:TE}{a:Addr}{j:Vbbhaj.Job}{A:Ad}{s:Vbbhaj.State}{T:Txt K mg}{X:Addr→Prop}{D:Ends}
theorem acD{t:TA}{g:TG}{tt:TT}{te:TE}{vs:List Nat}{Q:VK}{n:Nat}(ha:Bs t σ H [.int (n:Nat)])(hn:n≤20000)
  (k:∀H1,aY H H1→∀Dn,H1 Dn=none→∃Pv:Nat→Hp→Prop,Pv 0 (upd H1 Dn (.lst []))∧(∀i H2,i<n→Pv i H2→g (.int (0+(i:Nat))) (wipe σ vs) H2 fun σ2 H3=>wipe σ2 vs=wipe σ vs∧tt σ2 H3 fun b H4 =>
   if b=true then te σ2 H4 fun y H5=>∃acc,H5 Dn=some (.lst acc)∧acc.length<sizeLine∧Pv (i+1) (upd H5 Dn (.lst (acc++[y])))else Pv (i+1) H4)∧∀H2,Pv n H2→Q (.ref Dn) H2):tLc (ZV t) g tt te vs σ H Q:=by
 unfold tLc ZV
 refine EvA.use ha fun us H1 s1 e=>?_
 subst e
 refine⟨(n:Nat),rfl,by omega,by omega,fun Dn hDn=>?_⟩
 obtain⟨Pv,h0,hs,hd⟩:=k H1 s1 Dn hDn
 refine R4 (n:=n) (Qd:=fun H'=>Q (.ref Dn) H') Pv h0 (fun H'=>?_) (fun i H' hi=>?_) (fun i H2 x H3 hi hp ⟨e1,e2⟩=>?_) hd
 ·show((n:Nat):Int).toNat≤n;omega
 ·show i<((n:Nat):Int).toNat;omega
 ·subst e1
  subst e2
  exact hs i _ hi hp
def aek(r:Addr)(H H':Hp):Prop:=∀b o,H b=some o→Qg o=true→b≠r→H' b=some o
theorem acT(v:RV)(C dx:Addr):Qg (.ins C dx v.fs)=true:=by
 show(("calls" : Str)==("calls" : Str))=true
 exact beq_self_eq_true _
def adB(T:Txt K mg):Sp:=fun vs H Q _=>∃X A s r dx l p lo xs cl t c,vs=[.ref A.b,.ref r]∧RX T X H A s∧Inv s∧X r∧Bt T H r dx l p lo∧RL lo xs∧xs.length≤20000∧PyFlat.call PyVbbhaj.shape (xs.drop p)=some (cl,t)∧VbbhajNeutral.asked1 cl=true∧VbbhajNeutral.callOf cl=some c ∧
 ∀v H' A' p',aek r H H'→A'.b=A.b→Bt T H' r dx l p' lo→xs.drop p'=t→RX T X H' A' (Vbbhaj.step s c).1→IsL (vO (Vbbhaj.step s c).2) v H'→Q v H'
theorem Kh(T:Txt K mg)(L:LK T base):bD P w K mg base CX0 7 T.jR.f T.jR.fd ["board","reader"] (adB T):=by
 refine T.jR.F.ok gQ (fun vs H Q E ⟨_,_,_,_,_,_,_,_,_,_,_,_,e,_⟩=>by rw[e];rfl) fun cdv A outer s H vs Q E hr hsp=>?_
 refine⟨_,(ak (bu (i:=2) gQ.nd rfl (Or.inl rfl) (Ky (pv 1) T.dz T.cG (j_ T) (by exact hr.mono (by decide))))
   (ak (bu (i:=3) gQ.nd rfl (Or.inl rfl) (Yz (K:=K) L.sh (pv 2)))
   (ak (xH (i:=4) (own:=[("turn",6)]) rfl gQ.nd rfl rfl (Bp rfl rfl rfl (by decide +kernel)) (N7 rfl T.yH (aj (cZ (bA (K:=K)) (pv 3) aH (fun _ _=>rfl)) aq)) (cF (by show qI ["board","reader","call","shape","numbers","rows","turn"] (aA lU) _ _=true;decide +kernel)) (fun _ _ _ _ _=>(bL (i:=6) gQ.nd rfl (Or.inl rfl))) (fun _ _ _ _ _=>yp) (fun _ _ _ _ _=>(Ky (pv 1) T.dz T.cG (j_ T) (by exact hr.mono (by decide)))))
   (ak (xH (i:=5) (own:=[("turn",6)]) rfl gQ.nd rfl rfl (Bp rfl rfl rfl (by decide +kernel)) (N7 rfl T.yH (aj (cZ (bA (K:=K)) (pv 3) aH (fun _ _=>rfl)) aq)) (cF (by show qI ["board","reader","call","shape","numbers","rows","turn"] (aA lU) _ _=true;decide +kernel)) (fun _ _ _ _ _=>(bL (i:=6) gQ.nd rfl (Or.inl rfl))) (fun _ _ _ _ _=>yp) (fun _ _ _ _ _=>(Ky (pv 1) T.dz T.fQ (De T) (by exact hr.mono (by decide)))))
   (ak (a_ (aR eX (pv 2) (bz T.Ux rfl) (aQ _)) (az (aC (aK T.gF (Ew T) (by exact hr.mono (by decide)) rfl (aj (pv 0) (aj (pv 2) (aj (pv 4) (aj (pv 5) aq))))))) aL)
   (ak (a_ (aR eX (pv 2) (bz T.Uu rfl) (aQ _)) (az (aC (aK T.eO (zU T) (by exact hr.mono (by decide)) rfl (aj (pv 0) (aj (pv 2) (aj (pv 4) aq)))))) aL)
   (ak (a_ (aR eX (pv 2) (bz T.FT rfl) (aQ _)) (az (aC (aK T.dg (xu T L) (by exact hr.mono (by decide)) rfl (aj (pv 0) (aj (pv 2) (aj (pv 4) (aj (pv 5) aq))))))) aL)
   (az (aC (aK T.fU (Df T L) (by exact hr.mono (by decide)) rfl (aj (pv 0) (aj (pv 2) (aj (pv 4) aq))))))))))))),?_⟩
 obtain⟨X,A,s,r,dx,l,p,lo,xs,cl,t,c,rfl,hx,iv,hXr,rd,hlo,hxl,hcall,has,hc,kk⟩:=hsp
 cases hdr:xs.drop p with
 |nil=>rw[hdr]at hcall;cases hcall
 |cons q r' =>
 rw[hdr]at hcall
 obtain⟨n,k,rws,hsh,hn,hrows,ecl⟩:=JH hcall
 obtain⟨hq,hr',hp⟩:=drop_cons hdr
 subst ecl
 refine aN ?_
 refine Hg (aa rfl) rd.1 (RV.u5 _) aV fun H1 s1=>?_
 refine⟨r,dx,l,p,lo,xs,q,rfl,rd.up s1,hlo,hq,fun H2 k2 rd2=>?_⟩
 (try dsimp only)
 have kp2:Kp r H H2:=(s1.kp r).trans k2
 refine aN ?_
 refine⟨.int q,rfl,q,n,k,rfl,hsh,fun ts hts=>?_⟩
 (try dsimp only)
 refine aN ?_
 have hnb:n≤20000:=by rw[← hr',List.length_drop]at hn;omega
 show tLc _ _ _ _ _ _ _ _
 refine acD (n:=n) (aB (Qc (aa rfl) (hts _) aJ rfl) aV) hnb fun H3 s3 Dn hDn=>⟨fun i H'=>Bt T H' r dx l (p+1+i) lo∧H' Dn=some (.lst ((r'.take i).map V.int))∧∀b o,H3 b=some o→b≠r→H' b=some o,?_,?_,?_⟩
 ·have ne:∀{b o},H3 b=some o→b≠Dn:=fun e=>bj e hDn
  have rd3:=rd2.up s3
  exact⟨⟨by rw[aO (ne rd3.1)];exact rd3.1,by rw[aO (ne rd3.2)];exact rd3.2⟩,aX,fun b o e _=>by rw[aO (ne e)];exact e⟩
 ·rintro i H4 hi ⟨rd4,hD4,kp4⟩
  refine⟨Fv _ 6 _,?_⟩
  simp only[Y0,if_true]
  have hir:i<r'.length:=by omega
  have hm:xs[p+1+i]?=some r'[i]:=by
   rw[← List.getElem?_drop,hr',List.getElem?_eq_getElem hir]
  refine Hg (aa rfl) rd4.1 (RV.u5 _) aV fun H6 s6=>?_
  refine⟨r,dx,l,p+1+i,lo,xs,r'[i],rfl,rd4.up s6,hlo,hm,fun H7 k7 rd7=>?_⟩
  have nDr:Dn≠r:=fun z=>by rw[z,(rd2.up s3).1]at hDn;cases hDn
  have hD7:=k7 _ _ (s6 _ _ hD4) nDr
  refine⟨_,hD7,by rw[List.length_map,List.length_take];exact iw (by omega),⟨?_,?_⟩,?_,fun b o e nb=>?_⟩
  ·rw[aO (cB rd7.1 hD7 (by intro z;cases z))];exact rd7.1
  ·rw[aO (fun z=>by have:=(rd2.up s3).2;rw[z,hDn]at this;cases this)];exact rd7.2
  ·rw[aX,List.take_add_one,List.getElem?_eq_getElem hir,List.map_append]
   rfl
  ·rw[aO (bj e hDn)]
   exact k7 _ _ (s6 _ _ (kp4 _ _ e nb)) nb
 rintro H4 ⟨rd4,hD4,kp4⟩
 (try dsimp only)
 have kpH4:Kp r H H4:=fun b o e nb=>kp4 _ _ (s3 _ _ (kp2 _ _ e nb)) nb
 have hkl:rws.length=k:=KQ hrows
 have hk2:=(Tp hsh).2
 refine aN ?_
 show tLc _ _ _ _ _ _ _ _
 refine acD (n:=k) (aB (Qc (aa rfl) (hts _) aJ rfl) aV) (by omega) fun H5 s5 Dr hDr=>⟨fun i H'=>(∃(pos:Nat) (rs:List (Addr×List Int)) (rem:List (List Int)),Bt T H' r dx l pos lo∧PyFlat.rows (k - i) (xs.drop pos)=some (rem,t)∧rs.map (·.2)++rem=rws∧rs.length=i∧H' Dr=some (.lst (rs.map fun q:Addr×List Int=>V.ref q.1))∧∀q∈rs,H5 q.1=none∧q.1≠Dr∧H' q.1=some (.lst (q.2.map V.int)))∧∀b o,H5 b=some o→b≠r→H' b=some o,?_,?_,?_⟩
 ·have ne:∀{b o},H5 b=some o→b≠Dr:=fun e=>bj e hDr
  have rd5:=rd4.up s5
  refine⟨⟨p+1+n,[],rws,⟨by rw[aO (ne rd5.1)];exact rd5.1,by rw[aO (ne rd5.2)];exact rd5.2⟩,?_,rfl,rfl,aX,by simp⟩,fun b o e _=>by rw[aO (ne e)];exact e⟩
  rw[Nat.sub_zero,← List.drop_drop,hr']
  exact hrows
 ·rintro i H6 hi ⟨⟨pos,rs,rem,rd6,hro,happ,hlen,hD6,hall⟩,kp6⟩
  refine⟨Fv _ 6 _,?_⟩
  simp only[Y0,if_true]
  obtain⟨j,ej⟩:∃j,k - i=j+1:=⟨k - i - 1,by omega⟩
  rw[ej]at hro
  obtain⟨m,r2,xs',e1,m0,mle,e2,h2⟩:=Ob hro
  obtain⟨hm,hr2,hpos⟩:=drop_cons e1
  have mN:((m.toNat:Nat):Int)=m:=by omega
  have hle:pos+1+m.toNat≤xs.length:=by rw[← hr2,List.length_drop]at mle;omega
  refine Hg (aa rfl) rd6.1 (RV.Ss _) aV fun H7 s7=>?_
  refine⟨r,dx,l,pos,lo,xs,m.toNat,rfl,rd6.up s7,hlo,by rw[mN];exact hm,hle,hxl,fun H8 q k8 nq hq rd8=>?_⟩
  have nDr:Dr≠r:=fun z=>by rw[z,(rd4.up s5).1]at hDr;cases hDr
  have hD8:=k8 _ _ (s7 _ _ hD6) nDr
  have nqr:q≠r:=fun z=>by rw[z,(rd6.up s7).1]at nq;cases nq
  have nqD:q≠Dr:=fun z=>by rw[z,s7 _ _ hD6]at nq;cases nq
  have q5:H5 q=none:=by
   cases z:H5 q with
   |none=>rfl
   |some o=>rw[s7 _ _ (kp6 _ _ z nqr)]at nq;cases nq
  have h2':PyFlat.rows (k - (i+1)) (xs.drop (pos+1+m.toNat))=some (xs',t):=by
   rw[← List.drop_drop,hr2,show k - (i+1)=j by omega]
   exact h2
  refine⟨_,hD8,by rw[List.length_map,hlen];exact iw (by omega),⟨pos+1+m.toNat,rs++[(q,(xs.drop (pos+1)).take m.toNat)],xs',⟨?_,?_⟩,h2',?_,by rw[List.length_append,hlen];rfl,?_,fun z hz=>?_⟩,fun b o e nb=>?_⟩
  ·rw[aO (cB rd8.1 hD8 (by intro z;cases z))];exact rd8.1
  ·rw[aO (fun z=>by have:=(rd4.up s5).2;rw[z,hDr]at this;cases this)];exact rd8.2
  ·rw[List.map_append,List.append_assoc,← happ,e2,hr2]
   rfl
  ·rw[aX,List.map_append]
   rfl
  ·rcases List.mem_append.mp hz with hz | hz
   ·obtain⟨a1,a2,a3⟩:=hall z hz
    refine⟨a1,a2,?_⟩
    rw[aO a2]
    refine k8 _ _ (s7 _ _ a3) fun zr=>?_
    have:=(rd4.up s5).1
    rw[← zr,a1]at this
    cases this
   ·rw[List.mem_singleton.mp hz]
    exact⟨q5,nqD,by rw[aO nqD];exact hq⟩
  ·rw[aO (bj e hDr)]
   exact k8 _ _ (s7 _ _ (kp6 _ _ e nb)) nb
 rintro H6 ⟨⟨pos,rs,rem,rd6,hro,happ,hlen,hD6,hall⟩,kp6⟩
 (try dsimp only)
 rw[Nat.sub_self]at hro
 obtain⟨erem,et⟩:=Oc hro
 rw[erem,List.append_nil]at happ
 have kpH6:Kp r H H6:=fun b o e nb=>kp6 _ _ (s5 _ _ (kpH4 _ _ e nb)) nb
 have hx6:RX T X H6 A s:=hx.kpX hXr kpH6 (by rw[rd6.1];simp)
 have nDnr:Dn≠r:=fun z=>by rw[z,(rd2.up s3).1]at hDn;cases hDn
 have hDn6:H6 Dn=some (.lst ((r'.take n).map V.int)):=kp6 _ _ (s5 _ _ hD4) nDnr
 have hAns:Hj T X H6 A s q (r'.take n) rs Dn Q:=⟨hx6,iv,hDn6,by rw[hsh,List.length_take,Nat.min_eq_left hn,hlen],by rw[happ];exact has,fun c' e v H' A' f eb rx lv=>by
  rw[happ,hc]at e
  cases e
  refine kk v H' A' pos (fun b o e2 fo nb=>f _ _ (kpH6 _ _ e2 nb) fo) eb ⟨f _ _ rd6.1 (acT _ _ _),f _ _ rd6.2 hlo.fix⟩ et.symm rx lv⟩
 have hRow:Cr H6 Dr rs:=⟨hD6,fun z hz=>(hall z hz).2.2⟩
 have hrange:=vM hsh
 refine cU (aP (eY (aa rfl) aJ)) (fun q1 H7 s7=>?_) fun q1 H7 s7=>?_
 ·have q1:q≤7:=of_decide_eq_true q1
  exact mX (aB (aa rfl) (aB (aa rfl) (aB (aa rfl) (aB (aa rfl) aV)))) fun H8 s8=>⟨X,A,s,q,_,rs,Dn,Dr,rfl,⟨hrange.1,q1⟩,hAns.up (s7.trans s8),hRow.up (s7.trans s8)⟩
 have q1:¬q≤7:=of_decide_eq_false q1
 refine cU (aP (eY (aa rfl) aJ)) (fun q2 H8 s8=>?_) fun q2 H8 s8=>?_
 ·have q2:q≤10:=of_decide_eq_true q2
  exact mX (aB (aa rfl) (aB (aa rfl) (aB (aa rfl) aV))) fun H9 s9=>⟨X,A,s,q,_,rs,Dn,rfl,⟨by omega,q2⟩,hAns.up (s7.trans (s8.trans s9))⟩
 have q2:¬q≤10:=of_decide_eq_false q2
 refine cU (aP (eY (aa rfl) aJ)) (fun q3 H9 s9=>?_) fun q3 H9 s9=>?_
 ·have q3:q≤17:=of_decide_eq_true q3
  exact mX (aB (aa rfl) (aB (aa rfl) (aB (aa rfl) (aB (aa rfl) aV)))) fun H10 s10=>⟨X,A,s,q,_,rs,Dn,Dr,rfl,⟨by omega,q3⟩,hAns.up (s7.trans (s8.trans (s9.trans s10))),hRow.up (s7.trans (s8.trans (s9.trans s10)))⟩
 have q3:¬q≤17:=of_decide_eq_false q3
 exact mX (aB (aa rfl) (aB (aa rfl) (aB (aa rfl) aV))) fun H10 s10=>⟨X,A,s,q,_,rs,Dn,rfl,⟨by omega,hrange.2⟩,hAns.up (s7.trans (s8.trans (s9.trans s10)))⟩
end
end Jq
end
section
set_option Elab.async false
set_option linter.all false
set_option maxRecDepth 100000
set_option maxHeartbeats 1000000
namespace L2
open PySem PySem.Spec PyProof.Rows
def acB(t:TE):TE:=fun σ H Q=>∃tl xs,H tl=some (.lst xs)∧t σ (But tl H) fun v H'=>H' tl=none→Q v (upd H' tl (.lst xs))
theorem zf{P b:Addr}{H:Hp}(h:H b=none):But P H b=none:=by
 unfold But
 split
 ·rfl
 ·exact h
theorem Zh{P b:Addr}{H:Hp}{o:HO}(h:But P H b=some o):b≠P∧H b=some o:=by
 unfold But at h
 by_cases z:b=P
 ·rw[if_pos z]at h;cases h
 ·rw[if_neg z]at h;exact⟨z,h⟩
theorem abV{X:Cx}{e:Expr}{t:TE}(h:PE X e t):PE X e (acB t):=by
 intro pins s σ H Q I ⟨tl,xs,hl,q⟩
 obtain⟨z,its,n,r,eo⟩:=(show ie X.prog X.w H s.heap tl (.lst xs)from I.hok tl _ hl)
 have nl:∀{b:Addr} {o:HO},H b=some o→o≠.lst xs→But tl H b=some o:=fun e ne=>xU e (cB e hl ne)
 have nL:tl≠X.env.locals:=fun w=>by have:=I.free;rw[← w,hl]at this;cases this
 have nF:tl∉X.fs:=fun w=>by
  obtain⟨_,o,ho,_⟩:=I.ok.En.mem w
  have:=I.base.free tl o ho (I.ok.frf tl w) fun u=>I.ok.U5 tl u w
  rw[hl]at this;cases this
 have nb:∀o,X.s_0.heap.get? tl=some o→X.H_0 tl=none→tl∉X.ex→False:=fun o ho h0 hx=>by
  have:=I.base.free tl o ho h0 hx
  rw[hl]at this;cases this
 have I':Inv X (pins++[(tl,{cls:=.type "list",data:=.seq its.toArray n})]) σ (But tl H) s:=by
  refine⟨I.ok,I.os,I.bare,⟨I.base.keep,I.base.slot,fun b o e n hx=>zf (I.base.free b o e n hx),I.base.there,fun b ys e=>nl (I.base.tups b ys e) (by intro w;cases w),fun b o u e=>nl (I.base.JZ b o u e) (by intro w;cases w),fun b ps e=>?_⟩,I.loc,I.cell,zf I.free,fun x c e=>zf (I.uc x c e),fun p hp=>?_,fun a o ha=>?_,I.len⟩
  ·obtain⟨m,e1⟩:=I.base.Ls b ps e
   exact⟨m,nl e1 (by intro w;cases w)⟩
  ·rcases List.mem_append.mp hp with hp | hp
   ·obtain⟨a1,a2,a3⟩:=I.pin p (List.mem_append_left _ hp)
    exact⟨a1,zf a2,a3⟩
   ·rcases List.mem_append.mp hp with hp | hp
    ·obtain⟨a1,a2,a3⟩:=I.pin p (List.mem_append_right _ hp)
     exact⟨a1,zf a2,a3⟩
    ·rw[List.mem_singleton.mp hp]
     refine⟨eo,by unfold But;rw[if_pos rfl],nL,nF,fun v w=>by cases w⟩
  ·obtain⟨na,ha⟩:=Zh ha
   exact(I.hok a o ha).stay (fun b u _ w=>w) (fun b w=>nl w (by intro w;cases w)) fun b ys w=>nl w (by intro w;cases w)
 refine thn (h _ s σ _ _ I' q) fun u s' ⟨v,H',J,rv,qq⟩=>?_
 obtain⟨p1,p2,_,_,p5⟩:=J.pin (tl,{cls:=.type "list",data:=.seq its.toArray n}) (List.mem_append_right _ (List.mem_append_right _ (List.mem_singleton.mpr rfl)))
 have p2:H' tl=none:=p2
 have keep:∀{b:Addr} {o:HO},H' b=some o→upd H' tl (.lst xs) b=some o:=fun e=>by rw[aO (bj e p2)];exact e
 refine⟨v,upd H' tl (.lst xs),⟨J.ok,J.os,J.bare,⟨J.base.keep,J.base.slot,fun b o e n hx=>?_,J.base.there,fun b ys e=>keep (J.base.tups b ys e),fun b o u e=>keep (J.base.JZ b o u e),fun b ps e=>?_⟩,J.loc,J.cell,?_,fun x c e=>?_,fun p hp=>?_,fun a o ha=>?_,J.len⟩,rv,qq p2⟩
 ·have hb:b≠tl:=fun w=>by subst w;exact nb o e n hx
  rw[aO hb];exact J.base.free b o e n hx
 ·obtain⟨m,e1⟩:=J.base.Ls b ps e
  exact⟨m,keep e1⟩
 ·rw[aO nL.symm];exact J.free
 ·have hc:c≠tl:=fun w=>by
   obtain⟨v,o,ho,hd⟩:=J.cell x c e
   rw[w,p1]at ho
   cases ho
   exact p5 _ hd
  rw[aO hc];exact J.uc x c e
 ·have hp':p∈X.pn++(pins++[(tl,({cls:=.type "list",data:=.seq its.toArray n}:Obj))]):=by
   rcases List.mem_append.mp hp with hp|hp
   ·exact List.mem_append_left _ hp
   ·exact List.mem_append_right _ (List.mem_append_left _ hp)
  obtain⟨a1,a2,a3⟩:=J.pin p hp'
  have hn:p.1≠tl:=fun w=>by
   have:=(I.pin p hp).2.1
   rw[w,hl]at this;cases this
  exact⟨a1,by rw[aO hn];exact a2,a3⟩
 ·by_cases w:a=tl
  ·subst w
   rw[aX]at ha
   cases ha
   exact⟨z,its,n,r,p1⟩
  ·rw[aO w]at ha
   exact(J.hok a o ha).stay (fun b u _ q=>q) (fun b q=>keep q) fun b ys q=>keep q
end L2
namespace Jq
open PySem PySem.Spec PyProof.Rows L2
def short(x:Vbbhaj.State×Vbbhaj.Ans):Prop:=(LQ x.2).length≤600
theorem bf(s:Vbbhaj.State)(n:Nat):short (Vbbhaj.no s n):=by show 1≤600;decide
theorem dB(s:Vbbhaj.State)(n:Nat):short (Vbbhaj.yes s n):=by show 1≤600;decide
theorem lR(s:Vbbhaj.State)(n:Nat){r:List Nat}(h:r.length≤500):short (Vbbhaj.yes s n [r]):=by
 show(((n:Nat):Int)::(((r.length:Nat):Int)::r.map Int.ofNat++[])).length≤600
 rw[List.append_nil,List.length_cons,List.length_cons,List.length_map]
 omega
theorem Lg(s:Vbbhaj.State)(n:Nat){r q:List Nat}(h:r.length≤100)(h2:q.length≤100):short (Vbbhaj.yes s n [r,q]):=by
 show(((n:Nat):Int)::(((r.length:Nat):Int)::r.map Int.ofNat++(((q.length:Nat):Int)::q.map Int.ofNat++[]))).length≤600
 simp only[List.append_nil,List.length_cons,List.length_append,List.length_map]
 omega
theorem xN{s:Vbbhaj.State}{n:Int}{f:Vbbhaj.Job→Vbbhaj.State×Vbbhaj.Ans}(h:∀j∈s.jobs,short (f j)):short (Vbbhaj.onJob s n f):=by
 unfold Vbbhaj.onJob
 split
 ·exact bf _ _
 ·split
  ·exact bf _ _
  ·rename_i j e
   exact h _ (iI e).1
theorem yx{s:Vbbhaj.State}{n:Int}{f:Vbbhaj.Job→Vbbhaj.State×Vbbhaj.Ans}(h:∀j∈s.jobs,short (f j)):short (Vbbhaj.onWaiting s n f):=by
 have e:Vbbhaj.onWaiting s n f=Vbbhaj.onJob s n fun j=>if Vbbhaj.isWaiting j=true then f j else Vbbhaj.no s 6:=rfl
 rw[e]
 refine xN fun j hj=>?_
 split
 ·exact h j hj
 ·exact bf _ _
theorem bh{c:Prop}[Decidable c]{x y:Vbbhaj.State×Vbbhaj.Ans}(h1:short x)(h2:short y):short (if c then x else y):=by
 split
 ·exact h1
 ·exact h2
theorem RK{s:Vbbhaj.State}(iv:Inv s)(p:Vbbhaj.Job→Bool):(s.jobs.filter p).length≤500:=by
 have:=List.length_filter_le p s.jobs
 have:=iv.g.few
 have:=iv.g.cap.2
 omega
theorem Xn{s:Vbbhaj.State}(iv:Inv s)(c:Vbbhaj.Call):short (Vbbhaj.step s c):=by
 cases c with
 |begin c p a=>exact bh (bf _ _) (dB _ _)
 |submit c p h b t =>
  show short (Vbbhaj.doSubmit s c p h b t)
  unfold Vbbhaj.doSubmit
  refine bh (bf _ _) (bh (bf _ _) ?_)
  split
  ·exact bf _ _
  ·exact bh (bf _ _) (bh (bf _ _) (bh (bf _ _) (bh (bf _ _) (bh (bf _ _) (dB _ _)))))
 |hold n=>exact yx fun j _=>bh (bf _ _) (dB _ _)
 |letgo n=>exact yx fun j _=>bh (bf _ _) (dB _ _)
 |change n c p=>exact bh (bf _ _) (yx fun j _=>dB _ _)
 |cancel n=>exact yx fun j _=>lR _ _ (Bc iv.g j _)
 |forget n =>
  refine xN fun j _=>?_
  split
  ·exact dB _ _
  ·exact bf _ _
 |tick n=>exact bh (bf _ _) (bh (bf _ _) (dB _ _))
 |limit c n=>exact bh (bf _ _) (dB _ _)
 |close c=>exact bh (bf _ _) (bh (bf _ _) (dB _ _))
 |open_ c=>exact bh (bf _ _) (bh (bf _ _) (dB _ _))
 |start i l=>exact bh (bf _ _) (bh (bf _ _) (bh (bf _ _) (dB _ _)))
 |serve i l=>exact bh (bf _ _) (bh (bf _ _) (bh (bf _ _) (dB _ _)))
 |drain i=>exact bh (bf _ _) (bh (bf _ _) (bh (bf _ _) (bh (dB _ _) (dB _ _))))
 |pick i =>
  refine bh (bf _ _) (bh (bf _ _) (bh (bf _ _) ?_))
  split
  ·exact dB _ _
  ·exact dB _ _
 |peek i=>exact bh (bf _ _) (bh (bf _ _) (bh (bf _ _) (dB _ _)))
 |finish i a c =>
  show short (Vbbhaj.doFinish s i a c)
  unfold Vbbhaj.doFinish
  refine bh (bf _ _) ?_
  split
  ·exact bf _ _
  ·exact lR _ _ (Bc iv.g _ _)
 |requeue i =>
  refine bh (bf _ _) ?_
  split
  ·exact bf _ _
  ·exact dB _ _
 |order c =>
  refine bh (bf _ _) (lR _ _ ?_)
  rw[List.length_map]
  show(Vbbhaj.inOrder s c.toNat).length≤500
  unfold Vbbhaj.inOrder
  rw[(qR _ _).length_eq]
  exact RK iv _
 |status n =>
  refine xN fun j hj=>Lg _ _ ?_ ?_
  ·rw[List.length_map]
   have:=Sd iv.g hj
   omega
  ·rw[List.length_append]
   have:(Vbbhaj.stateOf j).length=2:=by
    unfold Vbbhaj.stateOf
    split<;>rfl
   rw[this]
   show 2+7≤100
   decide
 |tests n =>
  refine xN fun j hj=>lR _ _ ?_
  have h1:=(iv.g.ok j hj).few
  have:∀l:List Vbbhaj.Test,(l.flatMap fun t=>[t.job,t.kind,t.n]).length=3 * l.length:=by
   intro l
   induction l with
   |nil=>rfl
   |cons t r ih=>rw[List.flatMap_cons,List.length_append,ih];show 3+3 * r.length=3 * (r.length+1);omega
  rw[this]
  omega
 |after n =>
  refine xN fun j _=>lR _ _ ?_
  rw[List.length_map]
  exact RK iv _
 |running =>
  refine lR _ _ ?_
  rw[show Vbbhaj.INITS=16 from rfl,KR,Ja]
  have:=List.length_filter_le (fun i=>decide (0<(s.inits.getD i {}).job)) (List.range 16)
  rw[List.length_range]at this
  omega
 |counts=>exact lR _ _ (by show 3≤500;decide)
 |initiator i =>
  by_cases q:Vbbhaj.isInit i=false
  ·rw[show Vbbhaj.step s (.initiator i)=Vbbhaj.no s 1 from if_pos q];exact bf _ _
  ·rw[show Vbbhaj.step s (.initiator i)=_ from if_neg q]
   have:=Ho iv (c:=i) (by simpa using q)
   exact Lg _ _ (by omega) (by show 2≤100;decide)
 |class_ c=>exact bh (bf _ _) (lR _ _ (by show 3≤500;decide))
end Jq
end
section
set_option Elab.async false
set_option linter.all false
set_option maxRecDepth 100000
set_option maxHeartbeats 1000000
namespace Jq
open PySem PySem.Spec PyProof.Rows L2
theorem aaW{s:Vbbhaj.State}{c:List (List Int)}{k:Vbbhaj.Call}(h:VbbhajNeutral.callOf c=some k):VbbhajNeutral.step s c=((Vbbhaj.step s k).1,LQ (Vbbhaj.step s k).2):=by
 unfold VbbhajNeutral.step
 rw[h]
 rfl
section
variable {P:Program}{w:World}{K:PySem.W.Frag}{mg:Str→Option Value}{base:Heap}
variable {σ:St}{H:Hp}{ta tb tc td:TE}{a:Addr}{j:Vbbhaj.Job}{A:Ad}{s:Vbbhaj.State}{T:Txt K mg}{X:Addr→Prop}{D:Ends}
theorem Zy{C:Addr}{m:Str}{G:GT}{R:V→Hp→Prop}{dx:Addr}{fs:List (Str×V)}(ha:Ev ta σ H (.ref a))(e:H a=some (.ins C dx fs))(l:fs.lookup m=none)(hg:∀H1,aY H H1→G [.ref a] H1 R):EvP (Om C m (ro G) [] E0 ta eV) σ H R:=fun H1 s1 Q k =>
 ha H1 s1 _ fun x H2 s2 ex=>⟨a,dx,fs,ex,(s1.trans s2) _ _ e,l,by
  subst ex
  exact⟨R,hg H2 (s1.trans s2),fun v H' s' r=>k v H' (s2.trans s') r⟩⟩
theorem aaN{tl:Addr}{H H':Hp}(k:∀b o,H b=some o→b≠tl→H' b=some o):aY (But tl H) (But tl H'):=fun b o e=>by
 obtain⟨n,e⟩:=Zh e
 exact xU (k _ _ e n) n
def aew(T:Txt K mg):Sp:=fun vs H Q _=>∃A lc lo xs cs f,vs=[.ref A.b,.ref lc]∧RX T (fun _=>False) H A Vbbhaj.start∧H lc=some lo∧RL lo xs∧xs.length≤20000∧PyFlat.calls PyVbbhaj.shape f xs=some cs∧(∀c∈cs,VbbhajNeutral.asked1 c=true)∧cs.length≤400 ∧
 ∀v H',IsL ((PyFlat.told (PyFlat.played VbbhajNeutral.step VbbhajNeutral.start cs)).map V.int) v H'→Q v H'
structure LoopAt(T:Txt K mg)(b lc r dx tl:Addr)(lo:HO)(xs fin:List Int)(m:Nat)(σ:St)(H:Hp):Prop where
 ex:∃(A:Ad) (s:Vbbhaj.State) (pos f:Nat) (cs:List (List (List Int))) (tot:List Int),m=cs.length∧A.b=b∧RX T (fun z=>z=r) (But tl H) A s∧Inv s∧Bt T H r dx lc pos lo∧PyFlat.calls PyVbbhaj.shape f (xs.drop pos)=some cs∧(∀c∈cs,VbbhajNeutral.asked1 c=true)∧H tl=some (.lst (tot.map V.int))∧tot++PyFlat.told (PyFlat.played VbbhajNeutral.step s cs)=fin∧tot.length+601 * cs.length≤300000
 st:∃o4,σ=[some (.ref b),some (.ref lc),some (.ref r),some (.ref tl),o4]
theorem Mz(T:Txt K mg)(L:LK T base):bD P w K mg base CX0 8 T.mz.f T.mz.fd ["board","calls"] (aew T):=by
 refine T.mz.F.ok rY (fun vs H Q E ⟨_,_,_,_,_,_,e,_⟩=>by rw[e];rfl) fun cdv A outer s H vs Q E hr hsp=>?_
 refine⟨_,(ak (bu (i:=2) rY.nd rfl (Or.inl rfl) (VF T.J7 (Kg T) T.gB.b (by exact hr.mono (by decide)) rfl (aj (pv 1) aq)))
   (ak (bu (i:=3) rY.nd rfl (Or.inl rfl) (bc aq))
   (ak (aaF PassesOwn.never (cD (bJ (Ky (pv 2) T.dz T.fj (BJ T) (by exact hr.mono (by decide))))) (ak (bu (i:=4) rY.nd rfl (Or.inl rfl) (abV (aK T.jR (Kh T L) (by exact hr.mono (by decide)) rfl (aj (pv 0) (aj (pv 2) aq)))))
   (ak (iT (N6 PySem.F.plainAttrs_list PySem.F.slot_list_append PySem.F.type_list_append NQ (pv 3) (aj (bR bB rfl T.jo fX (aj (pv 4) aq)) aq)))
   (az (iT (N6 PySem.F.plainAttrs_list PySem.F.slot_list_extend PySem.F.type_list_extend NT (pv 3) (aj (pv 4) aq)))))))
   (az (aC (pv 3)))))),?_⟩
 obtain⟨A,lc,lo,xs,cs,f,rfl,hx,hlc,hlo,hxl,hcs,has,hcl,kk⟩:=hsp
 have mk:EvP _ (start ["board","calls","reader","told","answer"] [V.ref A.b,.ref lc]) H (fun v H'=>∃r dx,v=.ref r∧H r=none∧H' r=some (.ins T.h_ dx (RV.mk lc 0).fs)) :=
  Ek (C:=T.h_) (sp:=Tq T) (t:=bw (cu 1) eV) (RA:=fun vs H'=>vs=[.ref lc]) (aB (aa rfl) aV) fun vs H1 x dx s1 e hx0 hd0 ne Q' k=>by
   subst e
   exact⟨x,dx,lc,rfl,aX,fun H' k' e'=>k H' (Bm hx0 hd0 k') ⟨x,dx,rfl,s1.free hx0,e'⟩⟩
 refine aN (vC mk ?_)
 rintro v H1 s1 ⟨r,dx,rfl,nr,er⟩
 (try dsimp only)
 refine aN (vC (ye aV (Nat.zero_le _)) ?_)
 rintro v H2 s2 ⟨tl,rfl,ntl,htl⟩
 (try dsimp only)
 have fewL:tl≠r∧tl≠lc:=⟨(fun z=>by rw[z,er]at ntl;cases ntl),(fun z=>by rw[z,s1 _ _ hlc]at ntl;cases ntl)⟩
 refine aN (show aa5 _ _ _ _ _ from⟨fun m σ' H'=>LoopAt T A.b lc r dx tl lo xs (PyFlat.told (PyFlat.played VbbhajNeutral.step VbbhajNeutral.start cs)) m σ' H',⟨cs.length,⟨A,Vbbhaj.start,0,f,cs,[],rfl,rfl,?_,Gm,⟨s2 _ _ er,s2 _ _ (s1 _ _ hlc)⟩,hcs,has,htl,rfl,by rw[List.length_nil];omega⟩,⟨_,rfl⟩⟩,?_⟩)
 ·have r2:RX T (fun z=>z=r) (But tl H2) A Vbbhaj.start:=by
   refine⟨hx.r.up fun b o e=>?_,fun b hb e=>?_⟩
   ·obtain⟨_,e⟩:=bM e
    have e1:=s1 _ _ e
    rw[b_ (X:=fun z=>z=r) (fun z=>by rw[z,nr]at e;cases e)]
    exact xU (s2 _ _ e1) (bj e1 ntl)
   ·rw[hb]at e
    rw[xU (s2 _ _ er) fewL.1.symm]at e
    cases e
  exact r2
 rintro m σ' H3 ⟨⟨A3,s3,pos,f3,cs3,tot,rfl,eb,rx3,iv3,rd3,hcs3,has3,htl3,hfin,hbd⟩,o4,rfl⟩
 have hend:EvT _ [some (.ref A.b),some (.ref lc),some (.ref r),some (.ref tl),o4] H3 (!decide (xs.length≤pos)) :=
  cC (fB (Zy (C:=T.h_) (m:="is_at_end") (G:=adS T) (R:=fun v _=>v=.bl (decide (xs.length≤pos))) (ta:=cu 2) (aa rfl) rd3.1 (RV.Qw _) fun H4 s4=>⟨r,dx,lc,pos,lo,xs,rfl,rd3.up s4,hlo,rfl⟩))
 refine hend H3 (aY.refl _) _ fun H4 s4=>?_
 cases hd:xs.drop pos with
 |nil =>
  have hle:xs.length≤pos:=List.drop_eq_nil_iff.mp hd
  rw[decide_eq_true hle]
  refine Ie ?_
  have e0:cs3=[]:=by
   rw[hd]at hcs3
   cases f3<;>exact(Option.some.inj hcs3).symm
  subst e0
  (try dsimp only)
  refine cI (aa rfl) fun v H5 s5 ev=>kk v H5 ⟨tl,ev,?_⟩
  rw[← hfin]
  show H5 tl=some (.lst ((tot++[]).map V.int))
  rw[List.append_nil]
  exact s5 _ _ (s4 _ _ htl3)
 |cons q r' =>
  have hlt:¬xs.length≤pos:=fun z=>by rw[List.drop_eq_nil_iff.mpr z]at hd;cases hd
  rw[decide_eq_false hlt]
  refine Ig ?_
  rw[hd]at hcs3
  obtain⟨c,t,cs',f',hcall,rfl,hcs'⟩:=UJ hcs3
  obtain⟨k,hk⟩:=(Rq hcall).2 (has3 c List.mem_cons_self)
  refine⟨fun σ' H'=>LoopAt T A.b lc r dx tl lo xs (PyFlat.told (PyFlat.played VbbhajNeutral.step VbbhajNeutral.start cs)) cs'.length σ' H',fun σ' H' h=>⟨_,Nat.lt_succ_self _,h⟩,?_⟩
  show nH _ _ _ _ _
  refine aN ?_
  show acB _ _ _ _
  refine⟨tl,tot.map V.int,s4 _ _ htl3,?_⟩
  have rd4:=rd3.up s4
  have rdB:Bt T (But tl H4) r dx lc pos lo:=⟨xU rd4.1 fewL.1.symm,xU rd4.2 fewL.2.symm⟩
  refine w_call (aB (aa rfl) (aB (aa rfl) aV)) fun H5 s5=>?_
  have rx5:RX T (fun z=>z=r) H5 A3 s3:=(rx3.up (aaN fun b o e _=>s4 _ _ e)).up s5
  refine⟨fun z=>z=r,A3,s3,r,dx,lc,pos,lo,xs,c,t,k,by rw[eb],rx5,iv3,rfl,rdB.up s5,hlo,hxl,by rw[hd];exact hcall,has3 c List.mem_cons_self,hk,fun v H6 A6 p6 fr eb6 rd6 ed6 rx6 lv ntl6=>?_⟩
  obtain⟨la,rfl,hla⟩:=lv
  have nla:la≠tl:=bj hla ntl6
  have hsh:=Xn iv3 k
  have hsh:(LQ (Vbbhaj.step s3 k).2).length≤600:=hsh
  have hz:(vO (Vbbhaj.step s3 k).2).length=(LQ (Vbbhaj.step s3 k).2).length:=by unfold vO;rw[List.length_map]
  rw[List.length_cons]at hbd
  (try dsimp only)
  have hla7:(upd H6 tl (.lst (tot.map V.int))) la=some (.lst (vO (Vbbhaj.step s3 k).2)):=by rw[aO nla];exact hla
  refine aN (T3 (K:=K) (l:=tl) (xs:=tot.map V.int) (y:=.int ((LQ (Vbbhaj.step s3 k).2).length:Nat)) (aa rfl) (mK (K:=K) (n:=(LQ (Vbbhaj.step s3 k).2).length) ((aa rfl).toL hla7) hz) aX (by rw[List.length_map,sizeLine_eq];omega) fun H8 k8 e8=>?_)
  (try dsimp only)
  have hla8:=k8 _ _ hla7 nla
  refine T4 (K:=K) (l:=tl) (xs:=tot.map V.int++[.int ((LQ (Vbbhaj.step s3 k).2).length:Nat)]) (zs:=vO (Vbbhaj.step s3 k).2) (aa rfl) ((aa rfl).toL hla8) e8 (by rw[List.length_append,List.length_map,hz,List.length_singleton,sizeLine_eq];omega) fun H9 k9 e9=>?_
  have kp9:∀b o,H6 b=some o→b≠tl→H9 b=some o:=fun b o e n=>k9 _ _ (k8 _ _ (by rw[aO n];exact e) n) n
  refine⟨⟨A6,(Vbbhaj.step s3 k).1,p6,f',cs',tot++(((LQ (Vbbhaj.step s3 k).2).length:Nat):Int)::LQ (Vbbhaj.step s3 k).2,rfl,eb6.trans eb,?_,Z1 iv3 k,⟨kp9 _ _ rd6.1 fewL.1.symm,kp9 _ _ rd6.2 fewL.2.symm⟩,by rw[ed6];exact hcs',fun c hc=>has3 c (List.mem_cons_of_mem _ hc),?_,?_,?_⟩,_,rfl⟩
  ·exact rx6.up fun b o e=>xU (kp9 _ _ e (bj e ntl6)) (bj e ntl6)
  ·rw[e9]
   unfold vO
   rw[List.map_append,List.map_cons,List.append_assoc]
   rfl
  ·rw[← hfin]
   show _=tot++PyFlat.told ((VbbhajNeutral.step s3 c).2::PyFlat.played VbbhajNeutral.step (VbbhajNeutral.step s3 c).1 cs')
   rw[aaW hk]
   unfold PyFlat.told
   rw[List.flatMap_cons,List.append_assoc]
  ·rw[List.length_append,List.length_cons]
   omega
def acz(T:Txt K mg):Sp:=fun vs H Q _=>∃lc lo xs cs f,vs=[.ref lc]∧H lc=some lo∧RL lo xs∧xs.length≤20000∧PyFlat.calls PyVbbhaj.shape f xs=some cs∧(∀c∈cs,VbbhajNeutral.asked1 c=true)∧cs.length≤400∧Jf T H ∧
 ∀v H',IsL ((PyFlat.told (PyFlat.played VbbhajNeutral.step VbbhajNeutral.start cs)).map V.int) v H'→Q v H'
theorem Vp(T:Txt K mg)(L:LK T base):bD P w K mg base CX0 9 T.mq.f T.mq.fd ["calls"] (acz T):=by
 refine T.mq.F.ok V0 (fun vs H Q E ⟨_,_,_,_,_,e,_⟩=>by rw[e];rfl) fun cdv A outer s H vs Q E hr hsp=>?_
 refine⟨_,(az (aC (aK T.mz (Mz T L) (by exact hr.mono (by decide)) rfl (aj (VF T.Qm (My T) T.ir.b (by exact hr.mono (by decide)) rfl (aj (bz T.zj rfl) (aj (bz T.FP rfl) (aj (bz T.FN rfl) aq)))) (aj (pv 0) aq))))),?_⟩
 obtain⟨lc,lo,xs,cs,f,rfl,hlc,hlo,hxl,hcs,has,hcl,htab,kk⟩:=hsp
 show fH _ _ _ _ _ _ _
 have mk:EvP _ (start ["calls"] [V.ref lc]) H (fun v H'=>∃A,v=.ref A.b∧RX T (fun _=>False) H' A Vbbhaj.start) :=
  Ek (C:=T.dR) (sp:=Oe T) (t:=bw (tC (.int 500)) (bw (tC (.int 10)) (bw (tC (.int 60)) eV))) (RA:=fun vs H'=>vs=[.int 500,.int 10,.int 60]) (aB aJ (aB aJ (aB aJ aV))) fun vs H1 x dx s1 e hx0 hd0 ne Q' k=>by
   subst e
   refine⟨fun _=>False,x,dx,500,10,60,rfl,aX,fun z=>z,fun z hz=>hz.elim,?_,fun H' A' k' eb rx=>?_⟩
   ·refine htab.up fun b o e=>?_
    rw[b_ (fun z=>z)]
    have e1:=s1 _ _ e
    rw[aO (bj e1 hx0),aO (bj e1 hd0)]
    exact e1
   ·exact k H' (Bm hx0 hd0 k') ⟨A',by rw[eb],rx⟩
 refine Q8 (RA:=fun vs H'=>∃A,vs=[.ref A.b,.ref lc]∧RX T (fun _=>False) H' A Vbbhaj.start) (fun H1 s1 Q' k'=>EvP.use (mk.up s1) fun v H2 s2 ⟨A,ev,rx⟩=>Ev.use (aa rfl) fun H3 s3=>k' _ H3 (s2.trans s3) ⟨A,by rw[ev],rx.up s3⟩) fun vs H1 s1 ⟨A,e,rx⟩=>?_
 subst e
 exact⟨A,lc,lo,xs,cs,f,rfl,rx,s1 _ _ hlc,hlo,hxl,hcs,has,hcl,kk⟩
end
end Jq
end
section
set_option Elab.async false
set_option linter.all false
set_option maxRecDepth 100000
set_option maxHeartbeats 1000000
namespace Jq
open PySem PySem.Spec PyProof.Rows L2
open PySem.W (WData Codec OpenSpec Well WellAll ReadsW ReadsAllW)
theorem OD{Pm:Params}{h:Heap}:∀(ns:List Int) (us:List Value),WellAll Pm h us (ns.map WData.int)→Vals (ns.map V.int) us
 |[],_,x=>by
  cases x
  exact .nil
 |n::r,_,x=>by
  cases x with
  |cons a b =>
   cases a
   exact .cons ⟨_,rfl⟩ (OD r _ b)
theorem KJ{R:PySem.W.WRecords}{cl:Str→Option Addr}{h:Heap}:∀(ns:List Int) (us:List Value),Vals (ns.map V.int) us→∃as,ReadsAllW R cl h us (ns.map WData.int) as
 |[],_,x=>by
  cases x
  exact⟨_,.nil⟩
 |n::r,_,x=>by
  cases x with
  |cons a b =>
   obtain⟨t,rfl⟩:=a
   obtain⟨as,q⟩:=KJ r _ b
   exact⟨_,.cons (.int n t) q⟩
theorem R7:∀{K:PySem.W.Frag} {a:Addr} {o:Obj},K.lookup a=some o→(a,o)∈K
 |[],a,o,h=>by cases h
 |(b,u)::r,a,o,h=>by
  rw[List.lookup_cons]at h
  cases q:a==b with
  |true =>
   rw[q]at h
   cases h
   rw[beq_iff_eq.mp q]
   exact List.mem_cons_self
  |false =>
   rw[q]at h
   exact List.mem_cons_of_mem _ (R7 h)
theorem Yo{K:PySem.W.Frag}(h:Vo K=true){a:Addr}{o:Obj}(e:K.lookup a=some o):o.cls≠.type "list":=fun z=>by
 have:=List.all_eq_true.mp h _ (R7 e)
 rw[show(a,o).2.cls=.type "list" from z]at this
 cases this
def adJ(mg:Str→Option Value)(base:Heap):Prop:=∃bm o,mg "__builtins__" = some (.ref bm)∧bm≠builtinsNs∧bm≠mainGlobals∧base.get? bm=some o∧o.cls=.type "module"∧o.dict=some builtinsNs∧o.data=.plain
theorem Zj{P:Program}{w:World}{K:PySem.W.Frag}{mg mb:Str→Option Value}{k:Nat}{fa p1 p2:Addr}{fd:FuncData}{sp:Sp}{s1:Shared}{vals:List Value}{ns out:List Int}{R:PySem.W.WRecords}{cl:Str→Option Addr}
  (KX:K.In s1.heap) (hns:s1.heap.Ns mainGlobals mg) (hb:s1.heap.Ns builtinsNs mb) (hbb:∀x:Str,x≠"__name__"→mb x=bootBuiltins x) (hlim:s1.heap.NoLimit) (hg:s1.gens=#[])
  (hbm:∃bm ob,mg "__builtins__" = some (.ref bm)∧bm≠builtinsNs∧s1.heap.get? bm=some ob∧ob.cls=.type "module"∧ob.dict=some builtinsNs∧ob.data=.plain)
  (hwl:WellAll w.params s1.heap vals [.list (ns.map WData.int)]) (hsz:ns.length≤sizeLine) (nol:Vo K=true)
  (h1:s1.heap.get? p1=some (PySem.W.tabObj #[])) (h2:s1.heap.get? p2=some (PySem.W.tabObj #[])) (k1:K.lookup p1=none) (k2:K.lookup p2=none) (t1:isCodeTable s1.heap p1) (t2:isCodeTable s1.heap p2)
  (hr:jx k callerA) (F:∀base:Heap,K.In base→adJ mg base→bD P w K mg base CX0 k fa fd ["calls"] sp)
  (hbind:Binds K fd ["calls"] [])
  (hsp:∀(H:Hp) (lc:Addr) (lo:HO),H lc=some lo→RL lo ns→H p1=some (.tbl #[])→H p2=some (.tbl #[])→sp [.ref lc] H (fun v H'=>IsL (out.map V.int) v H') fun _ _ _=>False) :
  codeAny (model P w) callerA (.call (.ref fa) ⟨vals,[]⟩) (fun r s'=>∃u as,r=.ok (.ret u)∧ReadsW R cl s'.heap u (.list (out.map WData.int)) as∧OldK s1.heap s'.heap∧s'.os=s1.os∧AllBare s'.gens) s1:=by
 cases hwl with
 |cons x1 x2 =>
  cases x2
  cases x1 with
  |@list a us _ ho hall =>
   have hv:=OD ns us hall
   obtain⟨H,hH⟩:∃H:Hp,H=fun b=>if b=p1∨b=p2 then some (.tbl #[])else if b=a then some (.frz {cls:=.type "list",data:=.seq us.toArray} (.lst (ns.map V.int)))else none:=⟨_,rfl⟩
   have at_:∀b,H b=if b=p1∨b=p2 then some (.tbl #[])else if b=a then some (.frz {cls:=.type "list",data:=.seq us.toArray} (.lst (ns.map V.int)))else none:=fun b=>by rw[hH]
   clear hH
   have ne1:¬(a=p1∨a=p2):=fun z=>by
    rcases z with z|z
    ·rw[z,h1]at ho
     exact absurd (congrArg Obj.cls (Option.some.inj ho)) (by intro z;cases z)
    ·rw[z,h2]at ho
     exact absurd (congrArg Obj.cls (Option.some.inj ho)) (by intro z;cases z)
   have hp1:H p1=some (.tbl #[]):=by rw[at_,if_pos (.inl rfl)]
   have hp2:H p2=some (.tbl #[]):=by rw[at_,if_pos (.inr rfl)]
   have ha:H a=some (.frz {cls:=.type "list",data:=.seq us.toArray} (.lst (ns.map V.int))):=by rw[at_,if_neg ne1,if_pos rfl]
   have tb:∀b,(b=p1∨b=p2)→s1.heap.get? b=some (PySem.W.tabObj #[]):=fun b z=>by
    rcases z with rfl|rfl
    ·exact h1
    ·exact h2
   have ok:HOk P w H s1.heap:=fun b u q=>by
    rw[at_]at q
    by_cases z:b=p1∨b=p2
    ·rw[if_pos z]at q
     cases q
     exact tb b z
    ·rw[if_neg z]at q
     by_cases z2:b=a
     ·rw[if_pos z2]at q
      cases q
      subst z2
      exact⟨ho,by rw[List.length_map];exact hsz,us,_,hv,ho⟩
     ·rw[if_neg z2]at q
      cases q
   have off:∀{b:Addr} {o:Obj},s1.heap.get? b=some o→(∀vs,o.data≠.fields vs)→(∀vs n,o.data≠.seq vs n)→H b=none:=fun{b o} e n1 n2=>by
    rw[at_]
    by_cases z:b=p1∨b=p2
    ·rw[tb b z]at e
     cases e
     exact absurd rfl (n1 #[])
    ·rw[if_neg z]
     by_cases z2:b=a
     ·rw[z2,ho]at e
      cases e
      exact absurd rfl (n2 us.toArray _)
     ·rw[if_neg z2]
   have nK:∀b o,K.lookup b=some o→H b=none:=fun b o e=>by
    rw[at_]
    by_cases z:b=p1∨b=p2
    ·rcases z with z | z
     ·rw[z,k1]at e
      cases e
     ·rw[z,k2]at e
      cases e
    ·rw[if_neg z]
     by_cases z2:b=a
     ·have e2:=KX b o e
      rw[z2,ho]at e2
      cases e2
      exact absurd rfl (Yo nol e)
     ·rw[if_neg z2]
   have base_of:∀{b:Addr} {o:Obj},s1.heap.get? b=some o→H b=none→(Ms s1.heap H).get? b=some o:=fun e n=>ZR e n
   have nsK:∀{b:Addr} {m:Str→Option Value},s1.heap.Ns b m→(Ms s1.heap H).Ns b m:=fun{b m} ⟨o,es,ep,e,d,r⟩=>⟨o,es,ep,base_of e (off e (fun vs z=>by rw[d]at z;cases z) fun vs n z=>by rw[d]at z;cases z),d,r⟩
   have hKb:K.In (Ms s1.heap H):=fun b o e=>base_of (KX b o e) (nK b o e)
   have hM:Mod K mg (Ms s1.heap H):=⟨hKb,nsK hns,⟨mb,nsK hb,hbb⟩,let ⟨mc,h1,h2⟩:=hlim;⟨mc,nsK h1,h2⟩⟩
   have e0:T8 P w K mg (Ms s1.heap H) callerA [] s1 H:=⟨rfl,hM,fun b o e=>abM e,Nat.le_of_eq (X_ _ _),trivial,fun b hb=>absurd (show b∈([]:List Addr)from hb) (by simp),ok,.of_eq hg⟩
   have hB:adJ mg (Ms s1.heap H):=by
    obtain⟨bm,ob,g1,g2,g3,g4,g5,g6⟩:=hbm
    refine⟨bm,ob,g1,g2,fun z=>?_,base_of g3 (off g3 (fun vs z=>by rw[g6]at z;cases z) fun vs n z=>by rw[g6]at z;cases z),g4,g5,g6⟩
    obtain⟨o,es,ep,e,d,_⟩:=hns
    rw[z,e]at g3
    cases g3
    rw[d]at g6
    cases g6
   refine codeAny_mono ((F _ hKb hB).run callerA [] s1 H ⟨[.ref a],[]⟩ [.ref a] [.ref a] _ _ hr e0 (hbind s1 [.ref a] KX rfl) (.cons rfl .nil) (hsp H a _ ha (.inr ⟨_,rfl⟩) hp1 hp2)) fun r s' x=>?_
   cases r with
   |error e=>exact False.elim x
   |ok fl =>
    cases fl with
    |next=>exact False.elim x
    |brk=>exact False.elim x
    |cont=>exact False.elim x
    |ret u =>
     obtain⟨v,H',os,bare,un,ok',r',q⟩:=x
     obtain⟨l,rfl,hl⟩:=q
     cases r'
     obtain⟨_,its,n,hvo,e⟩:=(show ie P w H' s'.heap l (.lst (out.map V.int))from ok' l _ hl)
     obtain⟨as,hrd⟩:=KJ (R:=R) (cl:=cl) (h:=s'.heap) out its hvo
     have tab:∀b,(b=p1∨b=p2)→∃more,s'.heap.get? b=some {cls:=.none,data:=.fields (#[]++more)}:=fun b z=>by
      obtain⟨more,hm⟩:=un.Ls b #[] (by rw[at_,if_pos z])
      exact⟨more,ok' b _ hm⟩
     have kept:∀b o,s1.heap.get? b=some o→¬(b=p1∨b=p2)→s'.heap.get? b=some o:=fun b o e z=>by
      by_cases z2:b=a
      ·subst z2
       have hh:=un.JZ b _ _ ha
       obtain⟨e2,_⟩:=ok' b _ hh
       rw[ho]at e
       cases e
       exact e2
      ·exact un.keep b o e (by rw[at_,if_neg z,if_neg z2]) (by intro z;exact absurd (show b∈([]:List Addr)from z) (by simp)) (by simp)
     have isT:∀b,(b=p1∨b=p2)→isCodeTable s1.heap b:=fun b z=>by
      rcases z with rfl|rfl
      ·exact t1
      ·exact t2
     refine⟨.ref l,_,rfl,ReadsW.list e rfl rfl hrd,⟨fun b o e=>?_,fun b o e=>?_⟩,os,bare⟩
     ·by_cases z:b=p1∨b=p2
      ·obtain⟨more,hm⟩:=tab b z
       rw[tb b z]at e
       cases e
       exact .inr (.inl ⟨isT b z,rfl,#[],more,rfl,hm⟩)
      ·exact .inl (kept b o e z)
     ·by_cases z:b=p1∨b=p2
      ·obtain⟨more,hm⟩:=tab b z
       exact⟨_,hm⟩
      ·exact⟨o,kept b o e z⟩
theorem Ou{H:Hp}{p:Addr}{qual:Str}(h:H p=some (.tbl #[])):TabAt H p qual:=⟨#[],h,trivial,fun pos cv z=>by cases z⟩
theorem abd{q:Program}{loose:List Str}{XP:(Str→Option Value)→Heap→Prop}{YP:World→Heap→Prop}{d:DefRec}{K:Params→PySem.W.Frag}{p1 p2 c1 c2:Addr}
  (hwell:PySem.Challenge.rw_jobqueue_s01_answers.wellSaid=true) (hr:jx 9 callerA)
  (hY:∀(w:World) (h:Heap),YP w h→(K w.params).In h∧h.get? p1=some (PySem.W.tabObj #[])∧h.get? p2=some (PySem.W.tabObj #[]))
  (F:∀(w:World) (mg:Str→Option Value) (fa:Addr) (h:Heap),(K w.params).In h→h.Ns mainGlobals mg→mg d.name=some (.ref fa)→ab_ (K w.params) mg fa p1 p2 c1 c2) :
  PySem.W.WalkOS q loose XP YP PySem.Challenge.rw_jobqueue_s01_answers d [] (fun f vs=>PySem.call f vs):=by
 intro w s_0 s1 mg mb G Y fa o pm cd doc dV kV ho hd hcd hD hmg hg args vals as hpre hlay hrd hwl hlo
 obtain⟨a,e1,e2⟩:=PySem.W.os_pre_some hpre
 obtain⟨e3,hwi⟩:=Codec.encAll_of_decAll PySem.Challenge.rw_jobqueue_s01_answers.args args a e1
 subst e3
 obtain⟨KX,g1,g2⟩:=hY w _ Y
 have Z:=F w mg fa _ KX G.T.g hmg
 obtain⟨T,rfl,rfl,rfl,q1,q2⟩:=Z.txt
 obtain⟨l,_⟩:=a
 have hwj:((Codec.inLen 0 16000 l&&l.all (Codec.inInt (-9223372036854775808) 9223372036854775807))&&true)=true:=hwi
 rw[Bool.and_eq_true,Bool.and_eq_true]at hwj
 have hlen:l.length≤16000:=(Codec.inNat_iff.mp hwj.1.1).2
 obtain⟨cs,hcs,has,hc,hans⟩:=Uc (l:=l) e2
 have hw2:WellAll w.params s1.heap vals [.list (l.map WData.int)]:=hwl
 refine PySem.W.enter_call (codeAny_mono (Zj (R:=[]) (cl:=PySem.classAt s_0.heap) (ns:=l) (out:=PyVbbhaj.answers l) (sp:=acz T) (fd:=T.mq.fd) KX G.T.g G.T.b G.T.builtins G.T.nolimit hg G.T.bmain hw2 (by rw[sizeLine_eq];omega) Z.nol g1 g2 Z.k1 Z.k2
  ((PySem.W.codeHd_of_K KX Z.h1).tab g1).isCodeTable ((PySem.W.codeHd_of_K KX Z.h2).tab g2).isCodeTable hr
  (fun base KB hB=>Vp T ⟨Z.ne,⟨_,q1,fun h KH=>PySem.W.codeHd_of_K KH Z.h1⟩,⟨_,q2,fun h KH=>PySem.W.codeHd_of_K KH Z.h2⟩,hB,Z.sh⟩) T.mq.b
  fun H lc lo hl hR t1 t2=>⟨lc,lo,l,cs,_,rfl,hl,hR,by omega,hcs,has,hc,⟨Ou t1,Ou t2⟩,fun v H' h=>by rw[hans];exact h⟩) fun r' s' hq=>?_)
 obtain⟨u,as',rfl,h1,h2,h3,h4⟩:=hq
 exact⟨.inl ⟨u,_,as',rfl,fun _=>rfl,h1,(OpenSpec.post_iff hwell hwi _ _).mpr rfl,fun z=>Bool.noConfusion (show false=true from z)⟩,h2,h3,h4⟩
end Jq
end

theorem PySem.Challenge.cw_jobqueue_s01_answers_holds : PySem.Challenge.rw_jobqueue_s01_answers.Holds := by
  exact Jq.hd fun q loose XP d K as e F => Jq.abd (p1 := 340) (p2 := 549) (c1 := 342) (c2 := 551) (by decide +kernel) ⟨rfl, by decide, by decide⟩ (fun w h Y => ⟨PySem.W.km_in_of Y, PySem.W.km_tabs_of Y 340 (by decide), PySem.W.km_tabs_of Y 549 (by decide)⟩) F
