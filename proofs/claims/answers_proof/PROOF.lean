import PyProof.Rows.All
import Wide.All
import OpenK.AllK
import Wide.FinOn
import PyProof.EqAt
import PyProof.EqKinds
import PyProof.TupleCall
import KE.BitLaws
import PySem.Challenge.RW_jobqueue_s01_answers
import KE.KDictSum
import PyProof.Rows.SortShellAny
import PyProof.Rows.InDataRows
import KE.KLam
import KE.KMinKey
import KE.KSortKeyAny
import KE.KSortTupAny
import KE.KSortTupG
import KE.OsGo
import KE.KNestM
import Open.SpecLaws
section
set_option autoImplicit false
namespace Jq
open Vbbhaj
abbrev nums(l:List Job):List Nat:=l.map (·.num)
def live(j:Job):Prop:=∀e,j.status≠.ended e
theorem su(l:List Job)(j:Job):nums (setJob l j)=nums l:=by
 unfold setJob nums
 rw[List.map_map]
 apply List.map_congr_left
 intro x _
 show(if x.num=j.num then j else x).num=x.num
 by_cases h:x.num=j.num
 ·rw[if_pos h];exact h.symm
 ·rw[if_neg h]
theorem xK:∀(l:List Job) (es:List (Nat×Ending)),nums (tell es l)=nums l
 |[],_=>rfl
 |j::r,es=>by
  unfold tell
  split
  ·split
   ·show j.num::nums (tell es r)=j.num::nums r;rw[xK r es]
   ·show j.num::nums (tell _ r)=j.num::nums r;rw[xK r _]
  ·show j.num::nums (tell es r)=j.num::nums r;rw[xK r es]
theorem v_(s:State)(x:Init)(p:Nat):∀(l:List Job) (st:Nat),nums (passOver s x p st l).2=nums l
 |[],_=>rfl
 |j::r,st=>by
  unfold passOver
  split
  ·show j.num::nums (passOver s x p _ r).2=j.num::nums r;rw[v_ s x p r _]
  ·show j.num::nums (passOver s x p st r).2=j.num::nums r;rw[v_ s x p r _]
def cW(l:List Job):Prop:=l.Pairwise fun a b=>a.num<b.num
theorem Wc{l:List Job}:cW l↔(nums l).Pairwise (·<·):=by
 unfold cW nums
 rw[List.pairwise_map]
theorem cW.vC{l l':List Job}(h:cW l)(e:nums l'=nums l):cW l':=by
 rw[Wc]at h ⊢
 rw[e];exact h
theorem cW.inj{l:List Job}(h:cW l):∀{a b:Job},a∈l→b∈l→a.num=b.num→a=b:=by
 induction l with
 |nil=>intro a b ha;cases ha
 |cons x r ih =>
  intro a b ha hb e
  have h':=List.pairwise_cons.mp h
  rcases List.mem_cons.mp ha with ea|ha'
  ·rcases List.mem_cons.mp hb with eb | hb'
   ·rw[ea,eb]
   ·have:=h'.1 b hb';rw[ea]at e;omega
  ·rcases List.mem_cons.mp hb with eb | hb'
   ·have:=h'.1 a ha';rw[eb]at e;omega
   ·exact ih h'.2 ha' hb' e
def tX(l:List Job)(n:Int):Option Job:=l.find? fun j=>(j.num:Int)==n
theorem iJ{l:List Job}{n:Int}{j:Job}(h:tX l n=some j):j∈l∧(j.num:Int)=n:=by
 refine⟨List.mem_of_find?_eq_some h,?_⟩
 have:=List.find?_some h
 exact eq_of_beq this
theorem V0{l:List Job}{n:Int}(h:tX l n=none):∀j∈l,(j.num:Int)≠n:=by
 intro j hj e
 have:=List.find?_eq_none.mp h j hj
 exact this (by rw[e];exact beq_self_eq_true n)
theorem Jh{l:List Job}(hs:cW l){j:Job}(hj:j∈l):tX l (j.num:Int)=some j:=by
 cases h:tX l (j.num:Int)with
 |none=>exact absurd rfl (V0 h j hj)
 |some k =>
  obtain⟨hk,e⟩:=iJ h
  rw[hs.inj hk hj (by omega)]
theorem dU{l:List Job}{j x:Job}(h:x∈setJob l j):(x=j∧∃y∈l,y.num=j.num)∨(x∈l∧x.num≠j.num):=by
 unfold setJob at h
 obtain⟨y,hy,e⟩:=List.mem_map.mp h
 by_cases q:y.num=j.num
 ·rw[if_pos q]at e;exact .inl ⟨e.symm,y,hy,q⟩
 ·rw[if_neg q]at e;subst e;exact .inr ⟨hy,q⟩
theorem uU{l:List Job}{j y:Job}(hy:y∈l)(e:y.num=j.num):j∈setJob l j :=
 List.mem_map.mpr ⟨y,hy,if_pos e⟩
theorem nR{l:List Job}{j y:Job}(hy:y∈l)(e:y.num≠j.num):y∈setJob l j :=
 List.mem_map.mpr ⟨y,hy,if_neg e⟩
theorem LR(a b:List Job)(j:Job):setJob (a++b) j=setJob a j++setJob b j:=List.map_append
theorem Hf{l:List Job}{j:Job}(h:∀x∈l,x.num≠j.num):setJob l j=l:=by
 unfold setJob
 have:l.map (fun x=>if x.num=j.num then j else x)=l.map id:=List.map_congr_left fun x hx=>if_neg (h x hx)
 rw[this,List.map_id]
theorem Xv{a b:List Job}{x j:Job}(hs:cW (a++x::b))(e:x.num=j.num):setJob (a++x::b) j=a++j::b:=by
 unfold cW at hs
 rw[List.pairwise_append]at hs
 obtain⟨_,h2,h3⟩:=hs
 have h2':=List.pairwise_cons.mp h2
 rw[LR,Hf (l:=a) (fun y hy=>by have:=h3 y hy x (by simp);omega)]
 show a++(if x.num=j.num then j else x)::setJob b j=a++j::b
 rw[if_pos e,Hf fun y hy=>by have:=h2'.1 y hy;omega]
structure sS(j:Job):Prop where
 cls:1≤j.cls∧j.cls≤36
 prio:j.prio≤15
 name:isName j.name=true
 few:j.tests.length≤8
 tst:∀t∈j.tests,t.kind≤3∧t.n≤4095∧1≤t.job∧t.job<j.num
 idle:j.status≠.waiting→j.tests=[]∧j.held=false∧j.passed=0∧j.due=0
structure Good(s:State):Prop where
 cap:1≤s.cap∧s.cap≤500
 passes:1≤s.passes∧s.passes≤1000
 aging:1≤s.aging∧s.aging≤1000000
 now:s.now≤100000000
 next:1≤s.next∧s.next≤1000000
 stamp:1≤s.stamp
 Cp:s.classes.length=36
 Ie:s.inits.length=16
 few:s.jobs.length≤s.cap
 srt:cW s.jobs
 num:∀j∈s.jobs,1≤j.num∧j.num<s.next
 ok:∀j∈s.jobs,sS j
 wtd:∀j∈s.jobs,j.waited≤s.now
 tst:∀j∈s.jobs,∀t∈j.tests,∃k∈s.jobs,k.num=t.job∧live k
 due:∀j∈s.jobs,j.due<s.stamp
 inj:∀i∈s.jobs,∀j∈s.jobs,0<i.due→i.due=j.due→i.num=j.num
theorem Ro{c p a:Nat}(hc:1≤c∧c≤500)(hp:1≤p∧p≤1000)(ha:1≤a∧a≤1000000):Good (newHouse c p a) where
 cap:=hc
 passes:=hp
 aging:=ha
 now:=Nat.zero_le _
 next:=⟨Nat.le_refl _,by show 1≤1000000;omega⟩
 stamp:=Nat.le_refl _
 Cp:=by show(List.replicate CLASSES _).length=36;rw[List.length_replicate];rfl
 Ie:=by show(List.replicate INITS _).length=16;rw[List.length_replicate];rfl
 few:=Nat.zero_le _
 srt:=List.Pairwise.nil
 num:=fun j hj=>by cases hj
 ok:=fun j hj=>by cases hj
 wtd:=fun j hj=>by cases hj
 tst:=fun j hj=>by cases hj
 due:=fun j hj=>by cases hj
 inj:=fun j hj=>by cases hj
theorem Vj:Good start:=Ro ⟨by decide,by decide⟩ ⟨by decide,by decide⟩ ⟨by decide,by decide⟩
theorem Good.Vz{s:State}(g:Good s)(l:List Init)(h:l.length=16):Good {s with inits:=l} :=
 ⟨g.cap,g.passes,g.aging,g.now,g.next,g.stamp,g.Cp,h,g.few,g.srt,g.num,g.ok,g.wtd,g.tst,g.due,g.inj⟩
theorem Good.xX{s:State}(g:Good s)(l:List Class)(h:l.length=36):Good {s with classes:=l} :=
 ⟨g.cap,g.passes,g.aging,g.now,g.next,g.stamp,h,g.Ie,g.few,g.srt,g.num,g.ok,g.wtd,g.tst,g.due,g.inj⟩
theorem Good.setInit{s:State}(g:Good s)(i:Int)(x:Init):Good (setInit s i x) :=
 g.Vz _ (by rw[List.length_set];exact g.Ie)
theorem Good.setJob{s:State}(g:Good s){j j':Job}(hj:j∈s.jobs)(e:j'.num=j.num)(ok:sS j')(hw:j'.waited≤s.now)(hd:j'.due=j.due∨j'.due=0)(hl:live j→live j')
  (ht:∀t∈j'.tests,t∈j.tests):Good {s with jobs:=setJob s.jobs j'} where
 cap:=g.cap
 passes:=g.passes
 aging:=g.aging
 now:=g.now
 next:=g.next
 stamp:=g.stamp
 Cp:=g.Cp
 Ie:=g.Ie
 few:=by show(Vbbhaj.setJob s.jobs j').length≤_;unfold Vbbhaj.setJob;rw[List.length_map];exact g.few
 srt:=g.srt.vC (su _ _)
 num:=fun x hx=>by
  rcases dU hx with ⟨rfl,_⟩|⟨hx,_⟩
  ·rw[e];exact g.num j hj
  ·exact g.num x hx
 ok:=fun x hx=>by
  rcases dU hx with ⟨rfl,_⟩|⟨hx,_⟩
  ·exact ok
  ·exact g.ok x hx
 wtd:=fun x hx=>by
  rcases dU hx with ⟨rfl,_⟩|⟨hx,_⟩
  ·exact hw
  ·exact g.wtd x hx
 tst:=fun x hx t htx=>by
  have old:∃k∈s.jobs,k.num=t.job∧live k:=by
   rcases dU hx with ⟨rfl,_⟩|⟨hx,_⟩
   ·exact g.tst j hj t (ht t htx)
   ·exact g.tst x hx t htx
  obtain⟨k,hk,e1,l⟩:=old
  by_cases q:k.num=j'.num
  ·have:k=j:=g.srt.inj hk hj (by omega)
   subst this
   exact⟨j',uU hk q,by omega,hl l⟩
  ·exact⟨k,nR hk q,e1,l⟩
 due:=fun x hx=>by
  rcases dU hx with ⟨rfl,_⟩|⟨hx,_⟩
  ·rcases hd with hd | hd
   ·show x.due<s.stamp;rw[hd];exact g.due j hj
   ·show x.due<s.stamp;rw[hd];have:=g.stamp;omega
  ·exact g.due x hx
 inj:=fun x hx y hy h0 e1=>by
  have key:∀z∈Vbbhaj.setJob s.jobs j',0<z.due→∃z0∈s.jobs,z0.num=z.num∧z0.due=z.due:=fun z hz hz0=>by
   rcases dU hz with ⟨rfl,_⟩|⟨hz,_⟩
   ·rcases hd with hd | hd
    ·exact⟨j,hj,e.symm,hd.symm⟩
    ·omega
   ·exact⟨z,hz,rfl,rfl⟩
  obtain⟨x0,hx0,a1,a2⟩:=key x hx h0
  obtain⟨y0,hy0,b1,b2⟩:=key y hy (by omega)
  have:=g.inj x0 hx0 y0 hy0 (by omega) (by omega)
  omega
end Jq
end
section
set_option autoImplicit false
namespace Jq
open Vbbhaj
def endOf(j:Job):Option Ending:=match j.status with
 |.ended e=>some e
 |_=>none
theorem x_{j:Job}:endOf j=none↔live j:=by
 unfold endOf live
 cases j.status<;>simp
theorem Jc{j:Job}{e:Ending}:endOf j=some e↔j.status=.ended e:=by
 unfold endOf
 cases j.status<;>simp
theorem sZ{j:Job}(h:j.status=.waiting):live j:=fun e q=>by rw[h]at q;cases q
theorem Cd{j:Job}(h:j.status=.waiting):endOf j=none:=x_.mpr (sZ h)
def iH(es:List (Nat×Ending))(ts:List Test):Bool:=ts.all fun t=>match endingIn es t.job with
 |some e=>met t e
 |none=>true
def opened(es:List (Nat×Ending))(ts:List Test):List Test:=ts.filter fun t=>(endingIn es t.job).isNone
def turn(es:List (Nat×Ending))(j:Job):Job :=
 if j.status=.waiting then if iH es j.tests=true then {j with tests:=opened es j.tests}else atEnd j .flushed else j
def jB(es:List (Nat×Ending))(j:Job):List (Nat×Ending) :=
 if j.status=.waiting then if iH es j.tests=true then es else (j.num,.flushed)::es else es
def pY(es:List (Nat×Ending))(j:Job):List Nat :=
 if j.status=.waiting then if iH es j.tests=true then []else [j.num]else []
theorem uz(es:List (Nat×Ending))(j:Job)(r:List Job):tell es (j::r)=turn es j::tell (jB es j) r:=by
 have a:tell es (j::r)=if j.status=.waiting then (if iH es j.tests=true then {j with tests:=opened es j.tests}::tell es r else atEnd j .flushed::tell ((j.num,.flushed)::es) r)else j::tell es r:=by
  rw[tell];rfl
 rw[a]
 unfold turn jB
 by_cases h:j.status=.waiting
 ·rw[if_pos h,if_pos h,if_pos h]
  by_cases q:iH es j.tests=true
  ·rw[if_pos q,if_pos q,if_pos q]
  ·rw[if_neg q,if_neg q,if_neg q]
 ·rw[if_neg h,if_neg h,if_neg h]
def flush:List (Nat×Ending)→List Job→List Nat
 |_,[]=>[]
 |es,j::r=>pY es j++flush (jB es j) r
theorem rZ(es:List (Nat×Ending))(j:Job):(turn es j).num=j.num:=by
 unfold turn
 split
 ·split<;>rfl
 ·rfl
theorem iC(es:List (Nat×Ending))(n:Nat)(e:Ending)(m:Nat):endingIn ((n,e)::es) m=if n=m then some e else endingIn es m:=by
 unfold endingIn
 rw[List.find?_cons]
 by_cases h:n=m
 ·subst h;simp
 ·have:((n,e).1==m)=false:=by simpa using h
  rw[this,if_neg h]
structure uo(pre:List Job)(es:List (Nat×Ending))(rest:List Job):Prop where
 srt:cW (pre++rest)
 idle:∀x∈rest,x.status≠.waiting→x.tests=[]
 low:∀x∈rest,∀t∈x.tests,t.job<x.num
 tst:∀x∈rest,∀t∈x.tests,∃k∈pre++rest,k.num=t.job∧endingIn es t.job=endOf k
 done:∀x∈pre,∀t∈x.tests,∃k∈pre,k.num=t.job∧live k
theorem V5{pre r:List Job}{x y:Job}(h:cW (pre++x::r))(e:y.num=x.num):cW ((pre++[y])++r):=by
 refine h.vC ?_
 unfold nums
 simp[e]
theorem abZ{pre r:List Job}{x k:Job}(h:cW (pre++x::r))(hk:k∈pre++x::r)(lt:k.num<x.num):k∈pre:=by
 rcases List.mem_append.mp hk with h1|h1
 ·exact h1
 ·unfold cW at h
  rw[List.pairwise_append]at h
  have h2:=List.pairwise_cons.mp h.2.1
  rcases List.mem_cons.mp h1 with e|h3
  ·rw[e]at lt;omega
  ·have:=h2.1 k h3;omega
theorem uo.step{pre r:List Job}{es:List (Nat×Ending)}{x:Job}(I:uo pre es (x::r)):uo (pre++[turn es x]) (jB es x) r:=by
 have mx:x∈pre++x::r:=List.mem_append.mpr (.inr (List.mem_cons_self))
 have later:∀y∈r,x.num<y.num:=fun y hy=>by
  have h:=I.srt
  unfold cW at h
  rw[List.pairwise_append]at h
  exact(List.pairwise_cons.mp h.2.1).1 y hy
 refine⟨V5 I.srt (rZ es x),fun y hy=>I.idle y (List.mem_cons_of_mem _ hy),fun y hy=>I.low y (List.mem_cons_of_mem _ hy),fun y hy t ht=>?_,fun y hy t ht=>?_⟩
 ·obtain⟨k,hk,e1,e2⟩:=I.tst y (List.mem_cons_of_mem _ hy) t ht
  by_cases q:k.num=x.num
  ·have kx:k=x:=I.srt.inj hk mx q
   subst kx
   refine⟨turn es k,by simp,by rw[rZ];exact e1,?_⟩
   unfold turn jB
   by_cases h:k.status=.waiting
   ·rw[if_pos h,if_pos h]
    by_cases h2:iH es k.tests=true
    ·rw[if_pos h2,if_pos h2,e2,Cd h]
     exact(Cd (j:={k with tests:=opened es k.tests}) h).symm
    ·rw[if_neg h2,if_neg h2,iC,if_pos e1];rfl
   ·rw[if_neg h,if_neg h];exact e2
  ·refine⟨k,?_,e1,?_⟩
   ·rcases List.mem_append.mp hk with h1 | h1
    ·exact List.mem_append.mpr (.inl (List.mem_append.mpr (.inl h1)))
    ·rcases List.mem_cons.mp h1 with h2 | h2
     ·exact absurd (by rw[h2]) q
     ·exact List.mem_append.mpr (.inr h2)
   ·rw[← e2]
    unfold jB
    split
    ·split
     ·rfl
     ·rw[iC,if_neg (by omega)]
    ·rfl
 ·rcases List.mem_append.mp hy with h1 | h1
  ·obtain⟨k,hk,e1,l⟩:=I.done y h1 t ht
   exact⟨k,List.mem_append.mpr (.inl hk),e1,l⟩
  ·have hyx:y=turn es x:=by simpa using h1
   subst hyx
   have ht':t∈x.tests∧endingIn es t.job=none:=by
    unfold turn at ht
    by_cases h:x.status=.waiting
    ·rw[if_pos h]at ht
     by_cases h2:iH es x.tests=true
     ·rw[if_pos h2]at ht
      have:=List.mem_filter.mp (show t∈opened es x.tests from ht)
      exact⟨this.1,by simpa using this.2⟩
     ·rw[if_neg h2]at ht
      exact absurd (show t∈([]:List Test)from ht) (by simp)
    ·rw[if_neg h,I.idle x List.mem_cons_self h]at ht
     exact absurd ht (by simp)
   obtain⟨k,hk,e1,e2⟩:=I.tst x List.mem_cons_self t ht'.1
   have lt:=I.low x List.mem_cons_self t ht'.1
   exact⟨k,List.mem_append.mpr (.inl (abZ I.srt hk (by omega))),e1,x_.mp (by rw[← e2];exact ht'.2)⟩
theorem uo.all:∀{rest pre:List Job} {es:List (Nat×Ending)},uo pre es rest→uo (pre++tell es rest) [] []
 |[],pre,es,I=>by
  refine⟨by simpa [tell]using I.srt,fun x hx=>(by simp at hx),fun x hx=>(by simp at hx),fun x hx=>(by simp at hx),?_⟩
  simpa [tell]using I.done
 |x::r,pre,es,I=>by
  rw[uz]
  have:=uo.all I.step
  rw[List.append_assoc]at this
  exact this
theorem BX{s:State}(g:Good s){j:Job}(hj:j∈s.jobs)(hl:live j)(e:Ending):uo [] [(j.num,e)] (setJob s.jobs (atEnd j e)):=by
 have ej:(atEnd j e).num=j.num:=rfl
 refine⟨by rw[List.nil_append];exact g.srt.vC (su _ _),fun x hx hn=>?_,fun x hx t ht=>?_,fun x hx t ht=>?_,fun x hx=>(by simp at hx)⟩
 ·rcases dU hx with ⟨rfl,_⟩ | ⟨hx,_⟩
  ·rfl
  ·exact((g.ok x hx).idle hn).1
 ·rcases dU hx with ⟨rfl,_⟩ | ⟨hx,_⟩
  ·exact absurd (show t∈([]:List Test)from ht) (by simp)
  ·exact((g.ok x hx).tst t ht).2.2.2
 ·rw[List.nil_append]
  rcases dU hx with ⟨rfl,_⟩|⟨hx,_⟩
  ·exact absurd (show t∈([]:List Test)from ht) (by simp)
  ·obtain⟨k,hk,e1,l⟩:=g.tst x hx t ht
   by_cases q:k.num=j.num
   ·have:k=j:=g.srt.inj hk hj q
    subst this
    refine⟨atEnd k e,uU hk rfl,e1,?_⟩
    rw[iC,if_pos e1];rfl
   ·refine⟨k,nR hk (by rw[ej];exact q),e1,?_⟩
    rw[iC,if_neg (by omega),x_.mpr l];rfl
theorem Rf:∀{l:List Job} {es:List (Nat×Ending)} {x:Job},x∈tell es l→∃y∈l,∃es',x=turn es' y
 |[],_,x,h=>by simp[tell]at h
 |j::r,es,x,h=>by
  rw[uz]at h
  rcases List.mem_cons.mp h with h|h
  ·exact⟨j,List.mem_cons_self,es,h⟩
  ·obtain⟨y,hy,es',e⟩:=Rf h
   exact⟨y,List.mem_cons_of_mem _ hy,es',e⟩
theorem JH{j:Job}(h:sS j)(e:Ending):sS (atEnd j e) :=
 ⟨h.cls,h.prio,h.name,Nat.zero_le _,fun t ht=>(by simp[atEnd]at ht),fun _=>⟨rfl,rfl,rfl,rfl⟩⟩
theorem W3{es:List (Nat×Ending)}{j:Job}(h:sS j):sS (turn es j):=by
 unfold turn
 split
 ·rename_i hw
  split
  ·refine⟨h.cls,h.prio,h.name,Nat.le_trans (List.length_filter_le _ _) h.few,fun t ht=>h.tst t (List.mem_filter.mp ht).1,fun q=>absurd hw q⟩
  ·exact JH h _
 ·exact h
theorem RQ(es:List (Nat×Ending))(j:Job):(turn es j).due=j.due∨(turn es j).due=0:=by
 unfold turn
 split
 ·split
  ·exact .inl rfl
  ·exact .inr rfl
 ·exact .inl rfl
theorem Hu(es:List (Nat×Ending))(j:Job):(turn es j).waited=j.waited:=by
 unfold turn
 split
 ·split<;>rfl
 ·rfl
theorem Kf{s:State}(g:Good s){j:Job}(hj:j∈s.jobs)(hl:live j)(e:Ending):Good (ended s j e).1:=by
 have I:=(BX g hj hl e).all
 rw[List.nil_append]at I
 have src:∀x∈tell [(j.num,e)] (setJob s.jobs (atEnd j e)),∃y∈s.jobs,y.num=x.num∧sS x∧x.waited=y.waited∧(x.due=y.due∨x.due=0):=fun x hx=>by
  obtain⟨y,hy,es',rfl⟩:=Rf hx
  rcases dU hy with ⟨rfl,_⟩|⟨hy,_⟩
  ·refine⟨j,hj,by rw[rZ];rfl,W3 (JH (g.ok j hj) e),by rw[Hu];rfl,.inr ?_⟩
   rcases RQ es' (atEnd j e)with h|h
   ·rw[h];rfl
   ·exact h
  ·exact⟨y,hy,by rw[rZ],W3 (g.ok y hy),by rw[Hu],RQ es' y⟩
 have nm:nums (tell [(j.num,e)] (setJob s.jobs (atEnd j e)))=nums s.jobs:=by rw[xK,su]
 refine⟨g.cap,g.passes,g.aging,g.now,g.next,g.stamp,g.Cp,g.Ie,?_,g.srt.vC nm,fun x hx=>?_,fun x hx=>?_,fun x hx=>?_,fun x hx t ht=>I.done x hx t ht,fun x hx=>?_,fun x hx y hy h0 e1=>?_⟩
 ·have:=congrArg List.length nm
  unfold nums at this
  rw[List.length_map,List.length_map]at this
  show(tell [(j.num,e)] (setJob s.jobs (atEnd j e))).length≤s.cap
  rw[this];exact g.few
 ·obtain⟨y,hy,e1,_⟩:=src x hx
  rw[← e1];exact g.num y hy
 ·exact(src x hx).choose_spec.2.2.1
 ·obtain⟨y,hy,_,_,e1,_⟩:=src x hx
  rw[e1];exact g.wtd y hy
 ·obtain⟨y,hy,_,_,_,h⟩:=src x hx
  show x.due<s.stamp
  rcases h with h|h
  ·rw[h];exact g.due y hy
  ·rw[h];exact g.stamp
 ·obtain⟨x0,hx0,a1,_,_,a2⟩:=src x hx
  obtain⟨y0,hy0,b1,_,_,b2⟩:=src y hy
  have:=g.inj x0 hx0 y0 hy0 (by omega) (by omega)
  omega
theorem Qu{es:List (Nat×Ending)}{x:Job}(h:x.status=.waiting):isWaiting (turn es x)=iH es x.tests:=by
 unfold turn
 rw[if_pos h]
 cases q:iH es x.tests with
 |true=>rw[if_pos rfl];show(x.status==Status.waiting)=true;rw[h];rfl
 |false=>rw[if_neg (by simp)];rfl
theorem Fg:∀{l:List Job} {es:List (Nat×Ending)},cW l →
  (l.filter fun x=>isWaiting x&&(tell es l).any fun y=>y.num==x.num&&!isWaiting y).map (·.num)=flush es l
 |[],_,_=>rfl
 |j::r,es,hs=>by
  have h':=List.pairwise_cons.mp hs
  have tail:(r.filter fun x=>isWaiting x&&(tell es (j::r)).any fun y=>y.num==x.num&&!isWaiting y)
    = r.filter fun x=>isWaiting x&&(tell (jB es j) r).any fun y=>y.num==x.num&&!isWaiting y:=by
   apply List.filter_congr
   intro x hx
   rw[uz,List.any_cons]
   have:((turn es j).num==x.num)=false:=by
    rw[rZ];have:=h'.1 x hx;exact beq_eq_false_iff_ne.mpr (by omega)
   rw[this,Bool.false_and,Bool.false_or]
  have head:(tell es (j::r)).any (fun y=>y.num==j.num&&!isWaiting y)=!isWaiting (turn es j):=by
   rw[uz,List.any_cons]
   have a:((turn es j).num==j.num)=true:=by rw[rZ];exact beq_self_eq_true _
   have b:(tell (jB es j) r).any (fun y=>y.num==j.num&&!isWaiting y)=false:=by
    rw[List.any_eq_false]
    intro y hy
    have:y.num∈nums r:=by rw[← xK r (jB es j)];exact List.mem_map_of_mem hy
    obtain⟨z,hz,ez⟩:=List.mem_map.mp this
    have lt:=h'.1 z hz
    have:(y.num==j.num)=false:=beq_eq_false_iff_ne.mpr (by omega)
    simp[this]
   rw[a,b,Bool.true_and,Bool.or_false]
  rw[List.filter_cons,head,tail]
  show _=pY es j++flush (jB es j) r
  rw[← Fg h'.2]
  unfold pY
  by_cases h:j.status=.waiting
  ·have w:isWaiting j=true:=by unfold isWaiting;rw[h];rfl
   rw[if_pos h,w,Qu h,Bool.true_and]
   cases q:iH es j.tests with
   |true=>rw[if_neg (by simp),if_pos rfl];rfl
   |false=>rw[if_pos (by simp),if_neg (by simp)];rfl
  ·have w:isWaiting j=false:=by
    unfold isWaiting;cases q:j.status with
    |waiting=>exact absurd q h
    |running=>rfl
    |ended e=>rfl
   rw[if_neg h,w,Bool.false_and,if_neg (by simp)];rfl
theorem Sy{s:State}(g:Good s){j:Job}(e:Ending):(ended s j e).2=flush [(j.num,e)] (setJob s.jobs (atEnd j e)):=by
 rw[← Fg (g.srt.vC (su _ _))]
 show(s.jobs.filter fun x=>isWaiting x&&(x.num != j.num&&(tell [(j.num,e)] (setJob s.jobs (atEnd j e))).any fun y=>y.num==x.num&&!isWaiting y)).map (fun x=>x.num)=_
 generalize tell [(j.num,e)] (setJob s.jobs (atEnd j e))=L
 unfold setJob
 rw[List.filter_map,List.map_map]
 have a:(s.jobs.filter fun x=>isWaiting x&&(x.num != j.num&&L.any fun y=>y.num==x.num&&!isWaiting y))
   = s.jobs.filter ((fun x=>isWaiting x&&L.any fun y=>y.num==x.num&&!isWaiting y)∘fun x=>if x.num=(atEnd j e).num then atEnd j e else x):=by
  apply List.filter_congr
  intro x _
  show _=(isWaiting (if x.num=j.num then atEnd j e else x)&&L.any fun y=>y.num==(if x.num=j.num then atEnd j e else x).num&&!isWaiting y)
  by_cases q:x.num=j.num
  ·rw[if_pos q]
   have:(x.num != j.num)=false:=by simpa using q
   rw[this,Bool.false_and,Bool.and_false];rfl
  ·rw[if_neg q]
   have:(x.num != j.num)=true:=by simpa using q
   rw[this,Bool.true_and]
 rw[a]
 apply List.map_congr_left
 intro x _
 show x.num=(if x.num=j.num then atEnd j e else x).num
 by_cases q:x.num=j.num
 ·rw[if_pos q];exact q
 ·rw[if_neg q]
end Jq
end
section
set_option autoImplicit false
namespace Jq
open Vbbhaj
theorem jH{s:State}{x:Init}{p:Nat}:∀{l:List Job} {st:Nat} {y:Job},y∈(passOver s x p st l).2 →
  ∃z∈l,y.num=z.num∧y.name=z.name∧y.cls=z.cls∧y.prio=z.prio∧y.held=z.held∧y.status=z.status∧y.tests=z.tests∧y.waited=z.waited∧((y=z)∨(z.num≠p∧free s x z=true))
 |[],_,y,h=>by simp[passOver]at h
 |j::r,st,y,h=>by
  unfold passOver at h
  by_cases q:j.num≠p∧free s x j=true
  ·rw[if_pos q]at h
   rcases List.mem_cons.mp h with h|h
   ·subst h;exact⟨j,List.mem_cons_self,rfl,rfl,rfl,rfl,rfl,rfl,rfl,rfl,.inr q⟩
   ·obtain⟨z,hz,a⟩:=jH h
    exact⟨z,List.mem_cons_of_mem _ hz,a⟩
  ·rw[if_neg q]at h
   rcases List.mem_cons.mp h with h|h
   ·subst h;exact⟨y,List.mem_cons_self,rfl,rfl,rfl,rfl,rfl,rfl,rfl,rfl,.inl rfl⟩
   ·obtain⟨z,hz,a⟩:=jH h
    exact⟨z,List.mem_cons_of_mem _ hz,a⟩
theorem lV{s:State}{x:Init}{p:Nat}:∀{l:List Job} {st:Nat} {z:Job},z∈l →
  ∃y∈(passOver s x p st l).2,y.num=z.num∧y.status=z.status∧(z.num=p→y=z)
 |[],_,z,h=>by simp at h
 |j::r,st,z,h=>by
  unfold passOver
  by_cases q:j.num≠p∧free s x j=true
  ·rw[if_pos q]
   rcases List.mem_cons.mp h with h|h
   ·subst h;exact⟨_,List.mem_cons_self,rfl,rfl,fun e=>absurd e q.1⟩
   ·obtain⟨y,hy,a⟩:=lV (l:=r) h
    exact⟨y,List.mem_cons_of_mem _ hy,a⟩
  ·rw[if_neg q]
   rcases List.mem_cons.mp h with h|h
   ·subst h;exact⟨_,List.mem_cons_self,rfl,rfl,fun _=>rfl⟩
   ·obtain⟨y,hy,a⟩:=lV (l:=r) h
    exact⟨y,List.mem_cons_of_mem _ hy,a⟩
theorem i_{s:State}{x:Init}{p:Nat}:∀(l:List Job) (st:Nat),st≤(passOver s x p st l).1 ∧
  (∀y∈(passOver s x p st l).2,(st≤y.due∧y.due<(passOver s x p st l).1)∨∃z∈l,z.num=y.num∧y.due=z.due)
 |[],st=>⟨Nat.le_refl _,fun y h=>by simp[passOver]at h⟩
 |j::r,st=>by
  unfold passOver
  by_cases q:j.num≠p∧free s x j=true
  ·rw[if_pos q]
   by_cases h0:j.due=0∧s.passes≤j.passed+1
   ·simp only[if_pos h0]
    obtain⟨a,b⟩:=i_ (s:=s) (x:=x) (p:=p) r (st+1)
    refine⟨by omega,fun y hy=>?_⟩
    rcases List.mem_cons.mp hy with hy|hy
    ·subst hy;exact .inl ⟨Nat.le_refl _,by show st<_;omega⟩
    ·rcases b y hy with b | ⟨z,hz,e⟩
     ·exact .inl ⟨by omega,b.2⟩
     ·exact .inr ⟨z,List.mem_cons_of_mem _ hz,e⟩
   ·simp only[if_neg h0]
    obtain⟨a,b⟩:=i_ (s:=s) (x:=x) (p:=p) r st
    refine⟨a,fun y hy=>?_⟩
    rcases List.mem_cons.mp hy with hy|hy
    ·subst hy;exact .inr ⟨j,List.mem_cons_self,rfl,rfl⟩
    ·rcases b y hy with b | ⟨z,hz,e⟩
     ·exact .inl b
     ·exact .inr ⟨z,List.mem_cons_of_mem _ hz,e⟩
  ·rw[if_neg q]
   obtain⟨a,b⟩:=i_ (s:=s) (x:=x) (p:=p) r st
   refine⟨a,fun y hy=>?_⟩
   rcases List.mem_cons.mp hy with hy|hy
   ·subst hy;exact .inr ⟨y,List.mem_cons_self,rfl,rfl⟩
   ·rcases b y hy with b | ⟨z,hz,e⟩
    ·exact .inl b
    ·exact .inr ⟨z,List.mem_cons_of_mem _ hz,e⟩
theorem D_{s:State}{x:Init}{p:Nat}:∀(l:List Job) (st:Nat),cW l→(∀z∈l,z.due<st)→(∀a∈l,∀b∈l,0<a.due→a.due=b.due→a.num=b.num)→1≤st →
  ∀a∈(passOver s x p st l).2,∀b∈(passOver s x p st l).2,0<a.due→a.due=b.due→a.num=b.num
 |[],st,_,_,_,_=>fun a h=>by simp[passOver]at h
 |j::r,st,hs,hd,hi,h1=>by
  have hs':=List.pairwise_cons.mp hs
  have tail:∀st',st≤st'→∀a∈(passOver s x p st' r).2,∀b∈(passOver s x p st' r).2,0<a.due→a.due=b.due→a.num=b.num:=fun st' hst =>
   D_ r st' hs'.2 (fun z hz=>Nat.lt_of_lt_of_le (hd z (List.mem_cons_of_mem _ hz)) hst) (fun a ha b hb=>hi a (List.mem_cons_of_mem _ ha) b (List.mem_cons_of_mem _ hb)) (Nat.le_trans h1 hst)
  have keep:∀(st':Nat) (j':Job),st≤st'→j'.num=j.num→j'.due=j.due→∀b∈(passOver s x p st' r).2,0<j'.due→j'.due=b.due→j'.num=b.num:=fun st' j' hst e1 e2 b hb h0 e=>by
   rcases(i_ (s:=s) (x:=x) (p:=p) r st').2 b hb with c|⟨z,hz,n,d⟩
   ·have:=hd j List.mem_cons_self;omega
   ·rw[e1,← n];exact hi j List.mem_cons_self z (List.mem_cons_of_mem _ hz) (by omega) (by omega)
  have key:∀(st':Nat) (j':Job),st≤st'→j'.num=j.num→(∀b∈(passOver s x p st' r).2,0<j'.due→j'.due=b.due→j'.num=b.num) →
    ∀a∈j'::(passOver s x p st' r).2,∀b∈j'::(passOver s x p st' r).2,0<a.due→a.due=b.due→a.num=b.num:=fun st' j' hst e1 hk a ha b hb h0 e=>by
   rcases List.mem_cons.mp ha with ea|ha'
   ·rcases List.mem_cons.mp hb with eb | hb'
    ·rw[ea,eb]
    ·subst ea;exact hk b hb' h0 e
   ·rcases List.mem_cons.mp hb with eb | hb'
    ·subst eb;exact(hk a ha' (by omega) e.symm).symm
    ·exact tail st' hst a ha' b hb' h0 e
  unfold passOver
  by_cases q:j.num≠p∧free s x j=true
  ·rw[if_pos q]
   by_cases h0:j.due=0∧s.passes≤j.passed+1
   ·simp only[if_pos h0]
    refine key (st+1) _ (by omega) rfl fun b hb _ e=>?_
    have e:st=b.due:=e
    rcases(i_ (s:=s) (x:=x) (p:=p) r (st+1)).2 b hb with c|⟨z,hz,n,d⟩
    ·omega
    ·have:=hd z (List.mem_cons_of_mem _ hz);omega
   ·simp only[if_neg h0]
    exact key st _ (Nat.le_refl _) rfl (keep st _ (Nat.le_refl _) rfl rfl)
  ·rw[if_neg q]
   exact key st j (Nat.le_refl _) rfl (keep st j (Nat.le_refl _) rfl rfl)
theorem rO{j:Job}(h:ready j=true):j.status=.waiting∧j.held=false∧j.tests=[]:=by
 unfold ready isWaiting at h
 rw[Bool.and_eq_true,Bool.and_eq_true]at h
 refine⟨eq_of_beq h.1,by simpa using h.2.1,by simpa using h.2.2⟩
theorem CJ{s:State}{x:Init}{j:Job}(h:free s x j=true):ready j=true:=by
 unfold free at h
 rw[Bool.and_eq_true]at h
 exact h.1
theorem VN{j:Job}(h:sS j)(r:ready j=true):sS {j with status:=.running,passed:=0,due:=0}:=by
 obtain⟨_,h2,h3⟩:=rO r
 refine⟨h.cls,h.prio,h.name,h.few,h.tst,fun _=>⟨h3,h2,rfl,rfl⟩⟩
theorem Td{s:State}(g:Good s)(x:Init)(p:Nat):Good {s with stamp:=(passOver s x p s.stamp s.jobs).1,jobs:=(passOver s x p s.stamp s.jobs).2}:=by
 have nm:=v_ s x p s.jobs s.stamp
 obtain⟨st1,st2⟩:=i_ (s:=s) (x:=x) (p:=p) s.jobs s.stamp
 have okj:∀y∈(passOver s x p s.stamp s.jobs).2,sS y:=fun y hy=>by
  obtain⟨z,hz,e1,e2,e3,e4,e5,e6,e7,e8,e9⟩:=jH hy
  have h:=g.ok z hz
  refine⟨by rw[e3];exact h.cls,by rw[e4];exact h.prio,by rw[e2];exact h.name,by rw[e7];exact h.few,by rw[e7,e1];exact h.tst,fun q=>?_⟩
  rcases e9 with e9|e9
  ·rw[e9]at q ⊢;exact h.idle q
  ·exact absurd (by rw[e6];exact(rO (CJ e9.2)).1) q
 refine⟨g.cap,g.passes,g.aging,g.now,g.next,Nat.le_trans g.stamp st1,g.Cp,g.Ie,?_,g.srt.vC nm,fun y hy=>?_,okj,fun y hy=>?_,fun y hy t ht=>?_,fun y hy=>?_,?_⟩
 ·have:=congrArg List.length nm
  unfold nums at this
  rw[List.length_map,List.length_map]at this
  show(passOver s x p s.stamp s.jobs).2.length≤s.cap
  rw[this];exact g.few
 ·obtain⟨z,hz,e1,_⟩:=jH hy
  rw[e1];exact g.num z hz
 ·obtain⟨z,hz,_,_,_,_,_,_,_,e8,_⟩:=jH hy
  rw[e8];exact g.wtd z hz
 ·obtain⟨z,hz,_,_,_,_,_,_,e7,_,_⟩:=jH hy
  rw[e7]at ht
  obtain⟨k,hk,e,l⟩:=g.tst z hz t ht
  obtain⟨k',hk',n,e6,_⟩:=lV (s:=s) (x:=x) (p:=p) (st:=s.stamp) hk
  exact⟨k',hk',by rw[n];exact e,fun en q=>l en (by rw[← e6];exact q)⟩
 ·show y.due<(passOver s x p s.stamp s.jobs).1
  rcases st2 y hy with c|⟨z,hz,_,d⟩
  ·exact c.2
  ·rw[d];exact Nat.lt_of_lt_of_le (g.due z hz) st1
 ·exact D_ s.jobs s.stamp g.srt g.due g.inj g.stamp
theorem Te{s:State}(g:Good s){j:Job}(hj:j∈s.jobs)(r:ready j=true)(i:Int):Good (picked s i j):=by
 have g1:=Td g (initAt s i) j.num
 obtain⟨y,hy,_,_,e⟩:=lV (s:=s) (x:=initAt s i) (p:=j.num) (st:=s.stamp) hj
 have hy':j∈(passOver s (initAt s i) j.num s.stamp s.jobs).2:=by have:=e rfl;rw[this]at hy;exact hy
 have g2:=g1.setJob (j:=j) (j':={j with status:=.running,passed:=0,due:=0}) hy' rfl (VN (g.ok j hj) r) (g.wtd j hj) (.inr rfl) (fun _ en q=>by cases q) (fun t ht=>ht)
 exact g2.setInit i _
def runs(l:List Job)(n:Nat):Prop:=∃j∈l,j.num=n∧j.status=.running
structure Ini(xs:List Init)(l:List Job):Prop where
 run:∀x∈xs,x.job≠0→x.on=true∧runs l x.job
 off:∀x∈xs,x.on=false→x={}
 drn:∀x∈xs,x.draining=true→x.job≠0
 uni:∀(i k:Nat) (x y:Init),xs[i]?=some x→xs[k]?=some y→x.job≠0→x.job=y.job→i=k
 byi:∀n,runs l n→∃x∈xs,x.job=n
 cls:∀x∈xs,x.on=true→areClasses (x.classes.map Int.ofNat)=true
theorem Ini.congr{xs:List Init}{l l':List Job}(h:Ini xs l)(e:∀n,runs l n↔runs l' n):Ini xs l' :=
 ⟨fun x hx q=>⟨(h.run x hx q).1,(e _).mp (h.run x hx q).2⟩,h.off,h.drn,h.uni,fun n q=>h.byi n ((e n).mpr q),h.cls⟩
theorem Hg{l:List Job}(hs:cW l){j j':Job}(hj:j∈l)(e:j'.num=j.num)(st:j'.status=.running↔j.status=.running)(n:Nat):runs l n↔runs (setJob l j') n:=by
 constructor
 ·rintro⟨k,hk,e1,e2⟩
  by_cases q:k.num=j'.num
  ·have:k=j:=hs.inj hk hj (by omega)
   subst this
   exact⟨j',uU hk q,by omega,st.mpr e2⟩
  ·exact⟨k,nR hk q,e1,e2⟩
 ·rintro⟨k,hk,e1,e2⟩
  rcases dU hk with ⟨rfl,_⟩|⟨hk,_⟩
  ·exact⟨j,hj,by omega,st.mp e2⟩
  ·exact⟨k,hk,e1,e2⟩
theorem Ej(es:List (Nat×Ending))(j:Job):(turn es j).status=.running↔j.status=.running:=by
 unfold turn
 by_cases h:j.status=.waiting
 ·rw[if_pos h]
  split
  ·exact Iff.rfl
  ·constructor
   ·intro q;cases q
   ·intro q;rw[h]at q;cases q
 ·rw[if_neg h]
theorem Ft:∀(l:List Job) (es:List (Nat×Ending)) (n:Nat),runs l n↔runs (tell es l) n
 |[],_,n=>Iff.rfl
 |j::r,es,n=>by
  rw[uz]
  have ih:=Ft r (jB es j) n
  constructor
  ·rintro⟨k,hk,e1,e2⟩
   rcases List.mem_cons.mp hk with q|hk
   ·subst q;exact⟨_,List.mem_cons_self,by rw[rZ];exact e1,(Ej es k).mpr e2⟩
   ·obtain⟨k',hk',a⟩:=ih.mp ⟨k,hk,e1,e2⟩
    exact⟨k',List.mem_cons_of_mem _ hk',a⟩
  ·rintro⟨k,hk,e1,e2⟩
   rcases List.mem_cons.mp hk with q|hk
   ·subst q;exact⟨j,List.mem_cons_self,by rw[rZ]at e1;exact e1,(Ej es j).mp e2⟩
   ·obtain⟨k',hk',a⟩:=ih.mpr ⟨k,hk,e1,e2⟩
    exact⟨k',List.mem_cons_of_mem _ hk',a⟩
theorem Mu{s:State}{x:Init}{p:Nat}(l:List Job)(st:Nat)(n:Nat):runs l n↔runs (passOver s x p st l).2 n:=by
 constructor
 ·rintro⟨k,hk,e1,e2⟩
  obtain⟨y,hy,a,b,_⟩:=lV (s:=s) (x:=x) (p:=p) (st:=st) hk
  exact⟨y,hy,by omega,by rw[b];exact e2⟩
 ·rintro⟨k,hk,e1,e2⟩
  obtain⟨z,hz,a,_,_,_,_,b,_⟩:=jH hk
  exact⟨z,hz,by omega,by rw[← b];exact e2⟩
theorem KD{l:List Job}{j j':Job}(e:j'.num=j.num)(st:j'.status≠.running)(n:Nat):runs (setJob l j') n↔runs l n∧n≠j.num:=by
 constructor
 ·rintro⟨k,hk,e1,e2⟩
  rcases dU hk with ⟨rfl,_⟩|⟨hk,q⟩
  ·exact absurd e2 st
  ·exact⟨⟨k,hk,e1,e2⟩,by omega⟩
 ·rintro⟨⟨k,hk,e1,e2⟩,q⟩
  exact⟨k,nR hk (by omega),e1,e2⟩
theorem Pn{l:List Job}{j j':Job}(hj:j∈l)(e:j'.num=j.num)(st:j'.status=.running)(n:Nat):runs (setJob l j') n↔runs l n∨n=j.num:=by
 constructor
 ·rintro⟨k,hk,e1,e2⟩
  rcases dU hk with ⟨rfl,_⟩|⟨hk,q⟩
  ·exact .inr (by omega)
  ·exact .inl ⟨k,hk,e1,e2⟩
 ·rintro(⟨k,hk,e1,e2⟩ | q)
  ·by_cases h:k.num=j'.num
   ·exact⟨j',uU hk h,by omega,st⟩
   ·exact⟨k,nR hk h,e1,e2⟩
  ·exact⟨j',uU hj e.symm,by omega,st⟩
theorem Wh(l:List Job)(h:l=[]):Ini (List.replicate INITS {}) l:=by
 subst h
 have e:∀x:Init,x∈List.replicate INITS ({}:Init)→x={}:=fun x hx=>(List.mem_replicate.mp hx).2
 refine⟨fun x hx q=>?_,fun x hx _=>e x hx,fun x hx q=>?_,fun i k x y hx hy q=>?_,fun n ⟨j,hj,_⟩=>(by cases hj),fun x hx q=>?_⟩
 ·rw[e x hx]at q;exact absurd rfl q
 ·rw[e x hx]at q;cases q
 ·rw[e x (List.mem_of_getElem? hx)]at q;exact absurd rfl q
 ·rw[e x hx]at q;cases q
theorem Ini.set{xs:List Init}{l l':List Job}(h:Ini xs l){i:Nat}{x y:Init}(hi:xs[i]?=some x)
  (run:y.job≠0→y.on=true∧runs l' y.job) (off:y.on=false→y={}) (drn:y.draining=true→y.job≠0) (cls:y.on=true→areClasses (y.classes.map Int.ofNat)=true)
  (old:∀n,runs l n→n≠x.job→runs l' n) (new:∀n,runs l' n→n=y.job∨(runs l n∧n≠x.job)) (uni:y.job≠0→y.job=x.job∨¬runs l y.job):Ini (xs.set i y) l':=by
 have hil:i<xs.length:=(List.getElem?_eq_some_iff.mp hi).1
 have mem:∀z∈xs.set i y,z=y∨∃k,k≠i∧xs[k]?=some z:=fun z hz=>by
  obtain⟨k,hk⟩:=List.getElem?_of_mem hz
  by_cases q:i=k
  ·subst q;rw[List.getElem?_set_self hil]at hk;exact .inl (Option.some.inj hk).symm
  ·rw[List.getElem?_set_ne q]at hk;exact .inr ⟨k,fun e=>q e.symm,hk⟩
 have other:∀(k:Nat) (z:Init),k≠i→xs[k]?=some z→z.job≠0→z.job≠x.job:=fun k z hk hz q e=>hk (h.uni k i z x hz hi q e)
 refine⟨fun z hz q=>?_,fun z hz q=>?_,fun z hz q=>?_,fun a b z1 z2 h1 h2 q e=>?_,fun n hn=>?_,fun z hz q=>?_⟩
 ·rcases mem z hz with rfl | ⟨k,hk,hz'⟩
  ·exact run q
  ·have:=h.run z (List.mem_of_getElem? hz') q
   exact⟨this.1,old _ this.2 (other k z hk hz' q)⟩
 ·rcases mem z hz with rfl | ⟨k,hk,hz'⟩
  ·exact off q
  ·exact h.off z (List.mem_of_getElem? hz') q
 ·rcases mem z hz with rfl | ⟨k,hk,hz'⟩
  ·exact drn q
  ·exact h.drn z (List.mem_of_getElem? hz') q
 ·by_cases qa:i=a
  ·subst qa
   rw[List.getElem?_set_self hil]at h1
   have e1:y=z1:=Option.some.inj h1
   subst e1
   by_cases qb:i=b
   ·exact qb
   ·rw[List.getElem?_set_ne qb]at h2
    rcases uni q with u|u
    ·exact absurd (by rw[← e,u]) (other b z2 (fun z=>qb z.symm) h2 (by rw[← e];exact q))
    ·exact absurd (by rw[e];exact(h.run z2 (List.mem_of_getElem? h2) (by rw[← e];exact q)).2) u
  ·rw[List.getElem?_set_ne qa]at h1
   by_cases qb:i=b
   ·subst qb
    rw[List.getElem?_set_self hil]at h2
    have e1:y=z2:=Option.some.inj h2
    subst e1
    rcases uni (by rw[← e];exact q)with u|u
    ·exact absurd (by rw[e,u]) (other a z1 (fun z=>qa z.symm) h1 q)
    ·exact absurd (by rw[← e];exact(h.run z1 (List.mem_of_getElem? h1) q).2) u
   ·rw[List.getElem?_set_ne qb]at h2
    exact h.uni a b z1 z2 h1 h2 q e
 ·rcases new n hn with e | ⟨r,ne⟩
  ·exact⟨y,List.mem_of_getElem? (List.getElem?_set_self hil),e.symm⟩
  ·obtain⟨z,hz,ez⟩:=h.byi n r
   obtain⟨k,hk⟩:=List.getElem?_of_mem hz
   have:i≠k:=fun q=>by
    subst q
    rw[hi]at hk
    have:x=z:=Option.some.inj hk
    exact ne (by rw[this];exact ez.symm)
   exact⟨z,List.mem_of_getElem? (show(xs.set i y)[k]?=some z by rw[List.getElem?_set_ne this];exact hk),ez⟩
 ·rcases mem z hz with rfl | ⟨k,hk,hz'⟩
  ·exact cls q
  ·exact h.cls z (List.mem_of_getElem? hz') q
end Jq
end
section
set_option autoImplicit false
namespace Jq
open Vbbhaj
structure Inv(s:State):Prop where
 g:Good s
 i:Ini s.inits s.jobs
def gW(l:List Job):List (Nat×Ending):=l.filterMap fun j=>match j.status with
 |.ended e=>some (j.num,e)
 |_=>none
theorem Hl(j:Job)(l:List Job):gW (j::l)=match endOf j with
  |some e=>(j.num,e)::gW l
  |none=>gW l:=by
 unfold gW endOf
 rw[List.filterMap_cons]
 cases j.status<;>rfl
theorem BL:∀{l:List Job} {n:Nat},(∀k∈l,k.num≠n)→endingIn (gW l) n=none
 |[],n,_=>rfl
 |j::l,n,h=>by
  have ih:=BL (l:=l) (n:=n) fun k hk=>h k (List.mem_cons_of_mem _ hk)
  rw[Hl]
  cases endOf j with
  |none=>exact ih
  |some e=>show endingIn ((j.num,e)::gW l) n=none;rw[iC,if_neg (h j List.mem_cons_self)];exact ih
theorem uf:∀{l:List Job},cW l→∀{k:Job},k∈l→endingIn (gW l) k.num=endOf k
 |[],_,k,h=>by cases h
 |j::l,hs,k,h=>by
  have h':=List.pairwise_cons.mp hs
  rw[Hl]
  rcases List.mem_cons.mp h with e|hk
  ·subst e
   cases q:endOf k with
   |none=>exact BL fun z hz e=>by have:=h'.1 z hz;omega
   |some e=>show endingIn ((k.num,e)::gW l) k.num=some e;rw[iC,if_pos rfl]
  ·have lt:=h'.1 k hk
   have ih:=uf h'.2 hk
   cases endOf j with
   |none=>exact ih
   |some e=>show endingIn ((j.num,e)::gW l) k.num=endOf k;rw[iC,if_neg (by omega)];exact ih
theorem bI{n lo hi:Int}:inside n lo hi=true↔lo≤n∧n≤hi:=by unfold inside;exact decide_eq_true_iff
theorem not_false{b:Bool}(h:¬b=false):b=true:=by cases b<;>simp_all
theorem Inv.setJob{s:State}(v:Inv s){j j':Job}(hj:j∈s.jobs)(e:j'.num=j.num)(ok:sS j')(hw:j'.waited≤s.now)(hd:j'.due=j.due∨j'.due=0)(st:j'.status=j.status)
  (ht:∀t∈j'.tests,t∈j.tests):Inv {s with jobs:=Vbbhaj.setJob s.jobs j'} :=
 ⟨v.g.setJob hj e ok hw hd (fun l en q=>l en (by rw[← st];exact q)) ht,v.i.congr (Hg v.g.srt hj e (by rw[st]))⟩
theorem rQ{j:Job}:isWaiting j=true↔j.status=.waiting:=by
 unfold isWaiting
 exact⟨fun h=>eq_of_beq h,fun h=>by rw[h];rfl⟩
theorem kW{s:State}(g:Good s){i:Int}(h:isInit i=true):s.inits[i.toNat - 1]?=some (initAt s i):=by
 have:=bI.mp h
 have hl:i.toNat - 1<s.inits.length:=by rw[g.Ie];omega
 unfold initAt
 rw[List.getElem?_eq_getElem hl,List.getD_eq_getElem?_getD,List.getElem?_eq_getElem hl];rfl
theorem jA{s:State}(g:Good s){i:Int}(h:isInit i=true):initAt s i∈s.inits:=List.mem_of_getElem? (kW g h)
theorem Eo{b:Job→Job→Bool}:∀{l:List Job} {j:Job},best b l=some j→j∈l
 |[],j,h=>by simp[best]at h
 |x::r,j,h=>by
  unfold best at h
  cases q:best b r with
  |none=>rw[q]at h;rw[Option.some.inj h];exact List.mem_cons_self
  |some k =>
   rw[q]at h
   dsimp only at h
   split at h
   ·rw[Option.some.inj h];exact List.mem_cons_self
   ·rw[← Option.some.inj h];exact List.mem_cons_of_mem _ (Eo q)
theorem Hj{s:State}{x:Init}{j:Job}(h:chosen s x=some j):j∈s.jobs∧free s x j=true:=by
 unfold chosen at h
 dsimp only at h
 cases q:best sooner ((s.jobs.filter (free s x)).filter fun j=>decide (0<j.due))with
 |some k =>
  rw[q]at h
  have:=Eo q
  rw[← Option.some.inj h]
  exact List.mem_filter.mp (List.mem_filter.mp this).1
 |none =>
  rw[q]at h
  dsimp only at h
  cases p:x.classes.find? (fun c=>(s.jobs.filter (free s x)).any fun j=>j.cls==c)with
  |none=>rw[p]at h;cases h
  |some c =>
   rw[p]at h
   have:=Eo (show best (higher s) ((s.jobs.filter (free s x)).filter fun j=>j.cls==c)=some j from h)
   exact List.mem_filter.mp (List.mem_filter.mp this).1
theorem Ua{s:State}(v:Inv s)(c p h:Int)(b:Bytes)(t:List Int):Inv (doSubmit s c p h b t).1:=by
 unfold doSubmit
 by_cases h1:isClass c=false∨inside p 0 15=false∨inside h 0 1=false
 ·rw[if_pos h1];exact v
 rw[if_neg h1]
 by_cases h2:isName b=false
 ·rw[if_pos h2];exact v
 rw[if_neg h2]
 cases q:triples t with
 |none=>exact v
 |some ts =>
  dsimp only
  by_cases h3:8<ts.length
  ·rw[if_pos h3];exact v
  rw[if_neg h3]
  by_cases h4:(ts.all fun t=>isNum t.1&&(inside t.2.1 0 3&&inside t.2.2 0 4095))=false
  ·rw[if_pos h4];exact v
  rw[if_neg h4]
  by_cases h5:(ts.all fun t=>(jobAt s t.1).isSome)=false
  ·rw[if_pos h5];exact v
  rw[if_neg h5]
  split
  ·exact v
  ·split
   ·exact v
   ·rename_i h6 h7
    have h4':=List.all_eq_true.mp (not_false h4)
    have h5':=List.all_eq_true.mp (not_false h5)
    have cls:isClass c=true:=not_false fun e=>h1 (.inl e)
    have pri:inside p 0 15=true:=not_false fun e=>h1 (.inr (.inl e))
    have cl:=bI.mp cls
    have pr:=bI.mp pri
    have h7':s.jobs.length<s.cap∧s.next≤999999:=by
     refine⟨?_,?_⟩
     ·have a:¬(s.cap≤s.jobs.length):=fun e=>h7 (.inl e)
      omega
     ·have a:¬(LASTNUM<s.next):=fun e=>h7 (.inr e)
      have b:LASTNUM=999999:=rfl
      omega
    have tj:∀u∈(ts.map fun t=>(⟨t.1.toNat,t.2.1.toNat,t.2.2.toNat⟩:Test)),u.kind≤3∧u.n≤4095∧1≤u.job∧u.job<s.next∧∃k∈s.jobs,k.num=u.job:=fun u hu=>by
     obtain⟨x,hx,rfl⟩:=List.mem_map.mp hu
     have a:=h4' x hx
     rw[Bool.and_eq_true,Bool.and_eq_true]at a
     have a1:=bI.mp a.1
     have a2:=bI.mp a.2.1
     have a3:=bI.mp a.2.2
     obtain⟨k,hk⟩:=Option.isSome_iff_exists.mp (h5' x hx)
     obtain⟨mk,ek⟩:=iJ hk
     have:=v.g.num k mk
     refine⟨by show x.2.1.toNat≤3;omega,by show x.2.2.toNat≤4095;omega,by show 1≤x.1.toNat;omega,by show x.1.toNat<s.next;omega,k,mk,by show k.num=x.1.toNat;omega⟩
    have len:((ts.map fun t=>(⟨t.1.toNat,t.2.1.toNat,t.2.2.toNat⟩:Test))).length≤8:=by rw[List.length_map];omega
    generalize (ts.map fun t=>(⟨t.1.toNat,t.2.1.toNat,t.2.2.toNat⟩:Test))=L at tj len h6 ⊢
    have okn:sS {num:=s.next,name:=b,cls:=c.toNat,prio:=p.toNat,held:=h==1,tests:=L.filter fun t=>(endingIn (gW s.jobs) t.job).isNone} :=
     ⟨⟨by show 1≤c.toNat;omega,by show c.toNat≤36;omega⟩,by show p.toNat≤15;omega,not_false h2,Nat.le_trans (List.length_filter_le _ _) len,
      fun u hu=>let z:=tj u (List.mem_filter.mp hu).1;⟨z.1,z.2.1,z.2.2.1,z.2.2.2.1⟩,fun q=>absurd rfl q⟩
    have mem:∀x∈s.jobs++[({num:=s.next,name:=b,cls:=c.toNat,prio:=p.toNat,held:=h==1,tests:=L.filter fun t=>(endingIn (gW s.jobs) t.job).isNone}:Job)],
      x∈s.jobs∨x={num:=s.next,name:=b,cls:=c.toNat,prio:=p.toNat,held:=h==1,tests:=L.filter fun t=>(endingIn (gW s.jobs) t.job).isNone}:=fun x hx=>by
     rcases List.mem_append.mp hx with h|h
     ·exact .inl h
     ·exact .inr (by simpa using h)
    generalize hn:({num:=s.next,name:=b,cls:=c.toNat,prio:=p.toNat,held:=h==1,tests:=L.filter fun t=>(endingIn (gW s.jobs) t.job).isNone}:Job)=nw at okn mem
    have en:nw.num=s.next:=by rw[← hn]
    have ed:nw.due=0:=by rw[← hn]
    have ew:nw.waited=0:=by rw[← hn]
    have es:nw.status=.waiting:=by rw[← hn]
    have et:nw.tests=L.filter fun t=>(endingIn (gW s.jobs) t.job).isNone:=by rw[← hn]
    refine(show Inv {s with next:=s.next+1,jobs:=s.jobs++[nw]}→_ from fun z=>by rw[← hn]at z;exact z) ?_
    refine⟨⟨v.g.cap,v.g.passes,v.g.aging,v.g.now,⟨by show 1≤s.next+1;omega,by show s.next+1≤1000000;omega⟩,v.g.stamp,v.g.Cp,v.g.Ie,by show(s.jobs++[nw]).length≤s.cap;rw[List.length_append];show s.jobs.length+1≤s.cap;omega,?_,fun x hx=>?_,fun x hx=>?_,fun x hx=>?_,fun x hx t ht=>?_,fun x hx=>?_,fun x hx y hy h0 e=>?_⟩,v.i.congr fun n=>⟨?_,?_⟩⟩
    ·unfold cW
     rw[List.pairwise_append]
     refine⟨v.g.srt,List.pairwise_singleton _ _,fun a ha y hy=>?_⟩
     have:y=nw:=by simpa using hy
     rw[this,en];exact(v.g.num a ha).2
    ·rcases mem x hx with h | h
     ·have:=v.g.num x h;exact⟨this.1,by show x.num<s.next+1;omega⟩
     ·rw[h,en];exact⟨v.g.next.1,Nat.lt_succ_self _⟩
    ·rcases mem x hx with h | h
     ·exact v.g.ok x h
     ·rw[h];exact okn
    ·rcases mem x hx with h | h
     ·exact v.g.wtd x h
     ·rw[h,ew];exact Nat.zero_le _
    ·rcases mem x hx with h | h
     ·obtain⟨k,hk,e⟩:=v.g.tst x h t ht
      exact⟨k,List.mem_append.mpr (.inl hk),e⟩
     ·rw[h,et]at ht
      obtain⟨m1,m2⟩:=List.mem_filter.mp ht
      obtain⟨_,_,_,_,k,hk,ek⟩:=tj t m1
      refine⟨k,List.mem_append.mpr (.inl hk),ek,x_.mp ?_⟩
      rw[← uf v.g.srt hk,ek]
      simpa using m2
    ·rcases mem x hx with h | h
     ·exact v.g.due x h
     ·rw[h,ed];exact v.g.stamp
    ·rcases mem x hx with h | h
     ·rcases mem y hy with k | k
      ·exact v.g.inj x h y k h0 e
      ·rw[k,ed]at e;omega
     ·rw[h,ed]at h0;omega
    ·rintro⟨k,hk,e⟩
     exact⟨k,List.mem_append.mpr (.inl hk),e⟩
    ·rintro⟨k,hk,e1,e2⟩
     rcases mem k hk with h|h
     ·exact⟨k,h,e1,e2⟩
     ·rw[h,es]at e2;cases e2
theorem rT{s:State}(v:Inv s)(n:Int)(f:Job→State×Ans)(h:∀j∈s.jobs,j.status=.waiting→Inv (f j).1):Inv (onWaiting s n f).1:=by
 unfold onWaiting
 split
 ·exact v
 ·cases q:jobAt s n with
  |none=>exact v
  |some j =>
   dsimp only
   split
   ·rename_i hw;exact h j (iJ q).1 (rQ.mp hw)
   ·exact v
theorem Ba{s:State}(v:Inv s)(n:Int)(f:Job→State×Ans)(h:∀j∈s.jobs,Inv (f j).1):Inv (onJob s n f).1:=by
 unfold onJob
 split
 ·exact v
 ·cases q:jobAt s n with
  |none=>exact v
  |some j=>exact h j (iJ q).1
theorem okW{j j':Job}(h:sS j)(w:j'.status=.waiting)(e:j'.num=j.num)(n:j'.name=j.name)(t:j'.tests=j.tests)(c:1≤j'.cls∧j'.cls≤36)(p:j'.prio≤15):sS j' :=
 ⟨c,p,by rw[n];exact h.name,by rw[t];exact h.few,by rw[t,e];exact h.tst,fun q=>absurd w q⟩
theorem aaI{s:State}(v:Inv s){i:Int}(h:isInit i=true){j:Job}(hj:jobAt s (initAt s i).job=some j):j∈s.jobs∧j.num=(initAt s i).job∧(initAt s i).job≠0∧j.status=.running∧(initAt s i).on=true:=by
 obtain⟨m,e⟩:=iJ hj
 have en:j.num=(initAt s i).job:=by omega
 have n0:(initAt s i).job≠0:=by have:=v.g.num j m;omega
 obtain⟨on,k,hk,e1,e2⟩:=v.i.run _ (jA v.g h) n0
 have:k=j:=v.g.srt.inj hk m (by omega)
 subst this
 exact⟨m,en,n0,e2,on⟩
theorem Hn(x:Init):(without x).job=0:=by
 unfold without;split<;>rfl
theorem Sx(x:Init):(without x).draining=false:=by
 unfold without
 cases h:x.draining with
 |true=>rfl
 |false=>rw[if_neg (by simp)]
theorem Ux{x:Init}(h:(without x).on=true):x.on=true∧(without x).classes=x.classes:=by
 unfold without at h ⊢
 cases q:x.draining with
 |true=>rw[q]at h;cases h
 |false=>rw[q]at h;exact⟨h,rfl⟩
theorem HF{s:State}(v:Inv s){i:Int}(h:isInit i=true){l':List Job}{n:Nat}(en:n=(initAt s i).job)(hl:∀m,runs l' m↔runs s.jobs m∧m≠n)(off:(initAt s i).on=true) :
  Ini (s.inits.set (i.toNat - 1) (without (initAt s i))) l':=by
 refine v.i.set (kW v.g h) (fun q=>absurd (Hn _) q) (fun q=>?_) (fun q=>?_) (fun q=>?_) (fun m r ne=>(hl m).mpr ⟨r,by omega⟩) (fun m r=>.inr ⟨((hl m).mp r).1,by have:=((hl m).mp r).2;omega⟩) (fun q=>absurd (Hn _) q)
 ·unfold without at q ⊢
  cases d:(initAt s i).draining with
  |true=>rfl
  |false=>rw[d]at q;exact absurd (show(initAt s i).on=false from q) (by rw[off];simp)
 ·rw[Sx]at q;cases q
 ·obtain⟨a,b⟩:=Ux q
  rw[b];exact v.i.cls _ (jA v.g h) a
theorem toNat_ofNat(l:List Int)(h:∀x∈l,0≤x):(l.map Int.toNat).map Int.ofNat=l:=by
 rw[List.map_map]
 have:l.map (Int.ofNat∘Int.toNat)=l.map id:=List.map_congr_left fun x hx=>by
  show((x.toNat:Nat):Int)=x
  have:=h x hx;omega
 rw[this,List.map_id]
theorem zB{l:List Int}(h:areClasses l=true):areClasses ((l.map Int.toNat).map Int.ofNat)=true:=by
 rw[toNat_ofNat l]
 ·exact h
 ·unfold areClasses at h
  rw[Bool.and_eq_true,Bool.and_eq_true]at h
  intro x hx
  have:=bI.mp (List.all_eq_true.mp h.2.1 x hx)
  omega
theorem aaj{s:State}(v:Inv s)(c:Call):Inv (step s c).1:=by
 cases c with
 |begin c p a =>
  dsimp only[step]
  by_cases h:inside c 1 500=false∨inside p 1 1000=false∨inside a 1 1000000=false
  ·rw[if_pos h];exact v
  ·rw[if_neg h]
   have h1:=bI.mp (not_false fun e=>h (.inl e))
   have h2:=bI.mp (not_false fun e=>h (.inr (.inl e)))
   have h3:=bI.mp (not_false fun e=>h (.inr (.inr e)))
   exact⟨Ro ⟨by omega,by omega⟩ ⟨by omega,by omega⟩ ⟨by omega,by omega⟩,Wh _ rfl⟩
 |submit c p h b t=>exact Ua v c p h b t
 |hold n =>
  refine rT v n _ fun j hj w=>?_
  split
  ·exact v
  ·exact v.setJob hj rfl (okW (v.g.ok j hj) w rfl rfl rfl (v.g.ok j hj).cls (v.g.ok j hj).prio) (v.g.wtd j hj) (.inl rfl) rfl fun t ht=>ht
 |letgo n =>
  refine rT v n _ fun j hj w=>?_
  split
  ·exact v
  ·exact v.setJob hj rfl (okW (v.g.ok j hj) w rfl rfl rfl (v.g.ok j hj).cls (v.g.ok j hj).prio) (v.g.wtd j hj) (.inl rfl) rfl fun t ht=>ht
 |change n c p =>
  dsimp only[step]
  by_cases h:isClass c=false∨inside p 0 15=false
  ·rw[if_pos h];exact v
  ·rw[if_neg h]
   have h1:=bI.mp (not_false fun e=>h (.inl e))
   have h2:=bI.mp (not_false fun e=>h (.inr e))
   refine rT v n _ fun j hj w=>?_
   exact v.setJob hj rfl (okW (v.g.ok j hj) w rfl rfl rfl ⟨by show 1≤c.toNat;omega,by show c.toNat≤36;omega⟩ (by show p.toNat≤15;omega)) (v.g.wtd j hj) (.inl rfl) rfl fun t ht=>ht
 |cancel n =>
  refine rT v n _ fun j hj w=>?_
  refine⟨Kf v.g hj (sZ w) _,v.i.congr fun m=>?_⟩
  show runs s.jobs m↔runs (tell _ (Vbbhaj.setJob s.jobs (atEnd j .cancelled))) m
  rw[← Ft]
  exact Hg (j':=atEnd j .cancelled) v.g.srt hj rfl (by rw[w];constructor<;>(intro q;cases q)) m
 |forget n =>
  refine Ba v n _ fun j hj=>?_
  split
  ·rename_i en he
   have sub:∀x∈s.jobs.filter (fun x=>x.num != j.num),x∈s.jobs∧x.num≠j.num:=fun x hx=>⟨(List.mem_filter.mp hx).1,by simpa using(List.mem_filter.mp hx).2⟩
   refine⟨⟨v.g.cap,v.g.passes,v.g.aging,v.g.now,v.g.next,v.g.stamp,v.g.Cp,v.g.Ie,Nat.le_trans (List.length_filter_le _ _) v.g.few,List.Pairwise.filter _ v.g.srt,fun x hx=>v.g.num x (sub x hx).1,fun x hx=>v.g.ok x (sub x hx).1,fun x hx=>v.g.wtd x (sub x hx).1,
    fun x hx t ht=>?_,fun x hx=>v.g.due x (sub x hx).1,fun x hx y hy=>v.g.inj x (sub x hx).1 y (sub y hy).1⟩,v.i.congr fun m=>⟨?_,?_⟩⟩
   ·obtain⟨k,hk,e,l⟩:=v.g.tst x (sub x hx).1 t ht
    refine⟨k,List.mem_filter.mpr ⟨hk,?_⟩,e,l⟩
    by_cases q:k.num=j.num
    ·have:k=j:=v.g.srt.inj hk hj q
     subst this
     exact absurd he (l en)
    ·simpa using q
   ·rintro⟨k,hk,e1,e2⟩
    refine⟨k,List.mem_filter.mpr ⟨hk,?_⟩,e1,e2⟩
    by_cases q:k.num=j.num
    ·have:k=j:=v.g.srt.inj hk hj q
     subst this
     rw[he]at e2;cases e2
    ·simpa using q
   ·rintro⟨k,hk,e⟩
    exact⟨k,(sub k hk).1,e⟩
  ·exact v
 |tick n =>
  dsimp only[step]
  by_cases h:inside n 1 1000000=false
  ·rw[if_pos h];exact v
  rw[if_neg h]
  by_cases h2:LASTTIME<s.now+n.toNat
  ·rw[if_pos h2];exact v
  rw[if_neg h2]
  have src:∀x∈s.jobs.map (fun j=>if ready j=true then {j with waited:=j.waited+n.toNat}else j),∃y∈s.jobs,x.num=y.num∧x.status=y.status∧x.due=y.due∧x.tests=y.tests∧sS x∧x.waited≤y.waited+n.toNat:=fun x hx=>by
   obtain⟨y,hy,rfl⟩:=List.mem_map.mp hx
   refine⟨y,hy,?_⟩
   have ok:=v.g.ok y hy
   split
   ·exact⟨rfl,rfl,rfl,rfl,⟨ok.cls,ok.prio,ok.name,ok.few,ok.tst,ok.idle⟩,Nat.le_refl _⟩
   ·exact⟨rfl,rfl,rfl,rfl,ok,Nat.le_add_right _ _⟩
  have tgt:∀y∈s.jobs,∃x∈s.jobs.map (fun j=>if ready j=true then {j with waited:=j.waited+n.toNat}else j),x.num=y.num∧x.status=y.status:=fun y hy=>by
   refine⟨_,List.mem_map_of_mem hy,?_⟩
   split<;>exact⟨rfl,rfl⟩
  have nm:nums (s.jobs.map fun j=>if ready j=true then {j with waited:=j.waited+n.toNat}else j)=nums s.jobs:=by
   unfold nums
   rw[List.map_map]
   apply List.map_congr_left
   intro x _
   show(if ready x=true then {x with waited:=x.waited+n.toNat}else x).num=x.num
   split<;>rfl
  refine⟨⟨v.g.cap,v.g.passes,v.g.aging,?_,v.g.next,v.g.stamp,v.g.Cp,v.g.Ie,by show(s.jobs.map _).length≤s.cap;rw[List.length_map];exact v.g.few,v.g.srt.vC nm,fun x hx=>?_,fun x hx=>?_,fun x hx=>?_,fun x hx t ht=>?_,fun x hx=>?_,fun x hx y hy h0 e=>?_⟩,v.i.congr fun m=>⟨?_,?_⟩⟩
  ·show s.now+n.toNat≤100000000
   unfold LASTTIME at h2
   omega
  ·obtain⟨y,hy,e,_⟩:=src x hx
   rw[e];exact v.g.num y hy
  ·obtain⟨y,hy,_,_,_,_,ok,_⟩:=src x hx
   exact ok
  ·obtain⟨y,hy,_,_,_,_,_,l⟩:=src x hx
   have:=v.g.wtd y hy
   show x.waited≤s.now+n.toNat
   omega
  ·obtain⟨y,hy,_,_,_,e,_⟩:=src x hx
   rw[e]at ht
   obtain⟨k,hk,e1,l⟩:=v.g.tst y hy t ht
   obtain⟨k',hk',a,b⟩:=tgt k hk
   exact⟨k',hk',by omega,fun en q=>l en (by rw[← b];exact q)⟩
  ·obtain⟨y,hy,_,_,e,_⟩:=src x hx
   rw[e];exact v.g.due y hy
  ·obtain⟨x0,hx0,a1,_,a2,_⟩:=src x hx
   obtain⟨y0,hy0,b1,_,b2,_⟩:=src y hy
   have:=v.g.inj x0 hx0 y0 hy0 (by omega) (by omega)
   omega
  ·rintro⟨k,hk,e1,e2⟩
   obtain⟨k',hk',a,b⟩:=tgt k hk
   exact⟨k',hk',by omega,by rw[b];exact e2⟩
  ·rintro⟨k,hk,e1,e2⟩
   obtain⟨y,hy,a,b,_⟩:=src k hk
   exact⟨y,hy,by omega,by rw[← b];exact e2⟩
 |limit c n =>
  dsimp only[step]
  split
  ·exact v
  ·exact⟨v.g.xX _ (by rw[List.length_set];exact v.g.Cp),v.i⟩
 |close c =>
  dsimp only[step]
  split
  ·exact v
  ·split
   ·exact v
   ·exact⟨v.g.xX _ (by rw[List.length_set];exact v.g.Cp),v.i⟩
 |open_ c =>
  dsimp only[step]
  split
  ·exact v
  ·split
   ·exact v
   ·exact⟨v.g.xX _ (by rw[List.length_set];exact v.g.Cp),v.i⟩
 |start i l =>
  dsimp only[step]
  by_cases h:isInit i=false
  ·rw[if_pos h];exact v
  rw[if_neg h]
  by_cases h2:areClasses l=false
  ·rw[if_pos h2];exact v
  rw[if_neg h2]
  by_cases h3:(initAt s i).on=true
  ·rw[if_pos h3];exact v
  rw[if_neg h3]
  have hi:=not_false h
  have x0:=v.i.off _ (jA v.g hi) (by cases q:(initAt s i).on;rfl;exact absurd q h3)
  refine⟨v.g.setInit i _,v.i.set (kW v.g hi) (fun q=>absurd rfl q) (fun q=>by cases q) (fun q=>by cases q) (fun _=>zB (not_false h2)) (fun n r _=>r) (fun n r=>.inr ⟨r,?_⟩) (fun q=>absurd rfl q)⟩
  rw[x0]
  obtain⟨k,hk,e,_⟩:=r
  have:=v.g.num k hk
  show n≠0
  omega
 |serve i l =>
  dsimp only[step]
  by_cases h:isInit i=false
  ·rw[if_pos h];exact v
  rw[if_neg h]
  by_cases h2:areClasses l=false
  ·rw[if_pos h2];exact v
  rw[if_neg h2]
  by_cases h3:(initAt s i).on=false
  ·rw[if_pos h3];exact v
  rw[if_neg h3]
  have hi:=not_false h
  have m:=jA v.g hi
  refine⟨v.g.setInit i _,v.i.set (kW v.g hi) (fun q=>v.i.run (initAt s i) m q) (fun q=>absurd (show(initAt s i).on=false from q) h3) (fun q=>v.i.drn (initAt s i) m q) (fun _=>zB (not_false h2)) (fun n r _=>r) (fun n r=>?_) (fun q=>.inl rfl)⟩
  by_cases q:n=(initAt s i).job
  ·exact .inl q
  ·exact .inr ⟨r,q⟩
 |drain i =>
  dsimp only[step]
  by_cases h:isInit i=false
  ·rw[if_pos h];exact v
  rw[if_neg h]
  by_cases h3:(initAt s i).on=false
  ·rw[if_pos h3];exact v
  rw[if_neg h3]
  by_cases h4:(initAt s i).draining=true
  ·rw[if_pos h4];exact v
  rw[if_neg h4]
  have hi:=not_false h
  have m:=jA v.g hi
  by_cases h5:(initAt s i).job=0
  ·rw[if_pos h5]
   refine⟨v.g.setInit i _,v.i.set (kW v.g hi) (fun q=>absurd rfl q) (fun _=>rfl) (fun q=>by cases q) (fun q=>by cases q) (fun n r _=>r) (fun n r=>.inr ⟨r,?_⟩) (fun q=>absurd rfl q)⟩
   obtain⟨k,hk,e,_⟩:=r
   have:=v.g.num k hk
   omega
  ·rw[if_neg h5]
   refine⟨v.g.setInit i _,v.i.set (kW v.g hi) (fun q=>v.i.run (initAt s i) m q) (fun q=>absurd (show(initAt s i).on=false from q) h3) (fun _=>h5) (fun q=>v.i.cls (initAt s i) m q) (fun n r _=>r) (fun n r=>?_) (fun q=>.inl rfl)⟩
   by_cases q:n=(initAt s i).job
   ·exact .inl q
   ·exact .inr ⟨r,q⟩
 |pick i =>
  dsimp only[step]
  by_cases h:isInit i=false
  ·rw[if_pos h];exact v
  rw[if_neg h]
  by_cases h3:(initAt s i).on=false
  ·rw[if_pos h3];exact v
  rw[if_neg h3]
  by_cases h4:(initAt s i).job≠0
  ·rw[if_pos h4];exact v
  rw[if_neg h4]
  have hi:=not_false h
  have m:=jA v.g hi
  cases q:chosen s (initAt s i)with
  |none=>exact v
  |some j =>
   obtain⟨hj,fr⟩:=Hj q
   have rd:=CJ fr
   refine⟨Te v.g hj rd i,?_⟩
   obtain⟨y,hy,_,_,e⟩:=lV (s:=s) (x:=initAt s i) (p:=j.num) (st:=s.stamp) hj
   have hy':j∈(passOver s (initAt s i) j.num s.stamp s.jobs).2:=by have:=e rfl;rw[this]at hy;exact hy
   have key:∀n,runs (Vbbhaj.setJob (passOver s (initAt s i) j.num s.stamp s.jobs).2 {j with status:=.running,passed:=0,due:=0}) n↔runs s.jobs n∨n=j.num:=fun n=>by
    rw[Pn (j':={j with status:=.running,passed:=0,due:=0}) hy' rfl rfl,← Mu]
   have nr:¬runs s.jobs j.num:=fun⟨k,hk,e1,e2⟩=>by
    have:k=j:=v.g.srt.inj hk hj e1
    subst this
    rw[(rO rd).1]at e2;cases e2
   have n1:=(v.g.num j hj).1
   refine v.i.set (kW v.g hi) (fun _=>⟨by cases z:(initAt s i).on;exact absurd z h3;rfl,(key _).mpr (.inr rfl)⟩) (fun z=>absurd (show(initAt s i).on=false from z) h3) (fun z=>absurd (v.i.drn (initAt s i) m z) h4) (fun z=>v.i.cls (initAt s i) m z) (fun n r _=>(key n).mpr (.inl r)) (fun n r=>?_) (fun _=>.inr nr)
   rcases(key n).mp r with r|r
   ·by_cases z:n=0
    ·obtain⟨k,hk,e1,_⟩:=r
     have:=v.g.num k hk;omega
    ·exact .inr ⟨r,fun e=>h4 (by rw[← e];exact z)⟩
   ·exact .inl r
 |peek i =>
  dsimp only[step]
  split
  ·exact v
  ·split
   ·exact v
   ·split<;>exact v
 |finish i a c =>
  show Inv (doFinish s i a c).1
  unfold doFinish
  by_cases h:isInit i=false∨inside a 0 1=false∨inside c 0 4095=false
  ·rw[if_pos h];exact v
  rw[if_neg h]
  have hi:isInit i=true:=not_false fun e=>h (.inl e)
  cases q:jobAt s (initAt s i).job with
  |none=>exact v
  |some j =>
   obtain⟨m,en,n0,st,on⟩:=aaI v hi q
   have lv:live j:=fun e z=>by rw[st]at z;cases z
   refine⟨(Kf v.g m lv _).setInit i _,?_⟩
   refine HF v hi en (fun n=>?_) on
   show runs (tell _ (Vbbhaj.setJob s.jobs (atEnd j _))) n↔_
   rw[← Ft]
   exact KD (j:=j) (j':=atEnd j _) rfl (by intro z;cases z) n
 |requeue i =>
  dsimp only[step]
  by_cases h:isInit i=false
  ·rw[if_pos h];exact v
  rw[if_neg h]
  have hi:=not_false h
  cases q:jobAt s (initAt s i).job with
  |none=>exact v
  |some j =>
   obtain⟨m,en,n0,st,on⟩:=aaI v hi q
   have ok:=v.g.ok j m
   have g2:=v.g.setJob (j:=j) (j':={j with status:=.waiting,held:=true}) m rfl ⟨ok.cls,ok.prio,ok.name,ok.few,ok.tst,fun z=>absurd rfl z⟩ (v.g.wtd j m) (.inl rfl) (fun _ e z=>by cases z) (fun t ht=>ht)
   refine⟨g2.setInit i _,HF v hi en (fun n=>?_) on⟩
   exact KD (j:=j) (j':={j with status:=.waiting,held:=true}) rfl (by intro z;cases z) n
 |order c=>dsimp only[step];split<;>exact v
 |status n=>exact Ba v n _ fun j hj=>v
 |tests n=>exact Ba v n _ fun j hj=>v
 |after n=>exact Ba v n _ fun j hj=>v
 |running=>exact v
 |counts=>exact v
 |initiator i=>dsimp only[step];split<;>exact v
 |class_ c=>dsimp only[step];split<;>exact v
theorem Gu:Inv Vbbhaj.start:=⟨Vj,Wh _ rfl⟩
end Jq
end
section
set_option autoImplicit false
namespace Jq
open Vbbhaj
theorem ZR(c:List (List Int)):PyVbbhaj.whole c=c:=by
 unfold PyVbbhaj.whole
 split<;>rfl
theorem Zj(l:List Int):PyVbbhaj.calls l=PyFlat.calls PyVbbhaj.shape l.length l:=by
 unfold PyVbbhaj.calls
 cases PyFlat.calls PyVbbhaj.shape l.length l with
 |none=>rfl
 |some cs =>
  show some (cs.map PyVbbhaj.whole)=some cs
  rw[show cs.map PyVbbhaj.whole=cs.map id from List.map_congr_left fun c _=>ZR c,List.map_id]
section
variable {sh:Int→Option (Nat×Nat)}
theorem Vi{f:Nat}{p:Int}{r:List Int}{cs:List (List (List Int))}(h:PyFlat.calls sh f (p::r)=some cs) :
  ∃(c:List (List Int)) (t:List Int) (cs':List (List (List Int))) (f':Nat),PyFlat.call sh (p::r)=some (c,t)∧cs=c::cs'∧PyFlat.calls sh f' t=some cs':=by
 cases f with
 |zero=>simp[PyFlat.calls]at h
 |succ f =>
  unfold PyFlat.calls at h
  cases q:PyFlat.call sh (p::r)with
  |none=>rw[q]at h;cases h
  |some x =>
   obtain⟨c,t⟩:=x
   rw[q]at h
   dsimp only at h
   cases q2:PyFlat.calls sh f t with
   |none=>rw[q2]at h;cases h
   |some cs' =>
    rw[q2]at h
    exact⟨c,t,cs',f,rfl,(Option.some.inj h).symm,q2⟩
theorem Vh{p:Int}{r t:List Int}{c:List (List Int)}(h:PyFlat.call sh (p::r)=some (c,t)) :
  ∃(n k:Nat) (xs:List (List Int)),sh p=some (n,k)∧n≤r.length∧PyFlat.rows k (r.drop n)=some (xs,t)∧c=(p::r.take n)::xs:=by
 unfold PyFlat.call at h
 dsimp only at h
 cases q:sh p with
 |none=>rw[q]at h;cases h
 |some x =>
  obtain⟨n,k⟩:=x
  rw[q]at h
  dsimp only at h
  by_cases hl:r.length<n
  ·rw[if_pos hl]at h;cases h
  ·rw[if_neg hl]at h
   cases q2:PyFlat.rows k (r.drop n)with
   |none=>rw[q2]at h;cases h
   |some y =>
    obtain⟨xs,t'⟩:=y
    rw[q2]at h
    have e:=Option.some.inj h
    have e1:(p::r.take n)::xs=c:=congrArg Prod.fst e
    have e2:t'=t:=congrArg Prod.snd e
    subst e2
    exact⟨n,k,xs,rfl,by omega,q2,e1.symm⟩
end
theorem NZ{r t:List Int}{xs:List (List Int)}(h:PyFlat.rows 0 r=some (xs,t)):xs=[]∧t=r:=by
 have e:=Option.some.inj (show some (([]:List (List Int)),r)=some (xs,t)from h)
 exact⟨(congrArg Prod.fst e).symm,(congrArg Prod.snd e).symm⟩
theorem M9{k:Nat}{r t:List Int}{xs:List (List Int)}(h:PyFlat.rows (k+1) r=some (xs,t)) :
  ∃(m:Int) (r':List Int) (xs':List (List Int)),r=m::r'∧0≤m∧m.toNat≤r'.length∧xs=r'.take m.toNat::xs'∧PyFlat.rows k (r'.drop m.toNat)=some (xs',t):=by
 unfold PyFlat.rows at h
 cases r with
 |nil=>simp[PyFlat.row]at h
 |cons m r' =>
  unfold PyFlat.row at h
  dsimp only at h
  by_cases q:0≤m∧m.toNat≤r'.length
  ·rw[if_pos q]at h
   dsimp only at h
   cases q2:PyFlat.rows k (r'.drop m.toNat)with
   |none=>rw[q2]at h;cases h
   |some y =>
    obtain⟨xs',t'⟩:=y
    rw[q2]at h
    have e:=Option.some.inj h
    have e1:r'.take m.toNat::xs'=xs:=congrArg Prod.fst e
    have e2:t'=t:=congrArg Prod.snd e
    subst e2
    exact⟨m,r',xs',rfl,q.1,q.2,e1.symm,q2⟩
  ·rw[if_neg q]at h
   cases h
def bytesOf(l:List Int):Bytes:=l.map fun z=>UInt8.ofNat z.toNat
theorem JR:∀{l:List Int},(l.all fun(z:Int)=>VbbhajNeutral.natural z 8)=true→VbbhajNeutral.bytes? l=some (bytesOf l)
 |[],_=>rfl
 |z::l,h=>by
  rw[List.all_cons,Bool.and_eq_true]at h
  have ih:=JR (l:=l) h.2
  have hz:0≤z∧z≤255:=by
   have:=h.1
   unfold VbbhajNeutral.natural at this
   rw[Bool.and_eq_true,decide_eq_true_iff,decide_eq_true_iff]at this
   omega
  unfold VbbhajNeutral.bytes? at ih ⊢
  rw[List.mapM_cons,ih]
  have e:VbbhajNeutral.byte? z=some (UInt8.ofNat z.toNat):=if_pos hz
  rw[e]
  rfl
theorem Ut{l:List Int}(h:PyVbbhaj.answers_asked l=true):∃cs,PyFlat.calls PyVbbhaj.shape l.length l=some cs∧(∀c∈cs,VbbhajNeutral.asked1 c=true)∧cs.length≤400 ∧
  PyVbbhaj.answers l=PyFlat.told (PyFlat.played VbbhajNeutral.step VbbhajNeutral.start cs):=by
 unfold PyVbbhaj.answers_asked at h
 unfold PyVbbhaj.answers
 rw[Zj]at h ⊢
 cases q:PyFlat.calls PyVbbhaj.shape l.length l with
 |none=>rw[q]at h;cases h
 |some cs =>
  rw[q]at h
  dsimp only at h
  rw[Bool.and_eq_true]at h
  have h2:=h.2
  unfold VbbhajNeutral.asked at h2
  rw[Bool.and_eq_true,Bool.and_eq_true]at h2
  exact⟨cs,rfl,fun c hc=>List.all_eq_true.mp h2.1 c hc,by simpa using h2.2.2,rfl⟩
end Jq
end
section
set_option autoImplicit false
namespace Jq
open Vbbhaj
theorem Ec:∀{l:List Int},l.length % 3≠0→triples l=none
 |[],h=>absurd rfl h
 |[_],_=>rfl
 |[_,_],_=>rfl
 |a::b::c::r,h=>by
  have ih:=Ec (l:=r) (by simp only[List.length_cons]at h;omega)
  unfold triples
  rw[ih];rfl
def wJ(l:List Int)(i:Nat):Int×Int×Int:=(l.getD (3 * i) 0,l.getD (3 * i+1) 0,l.getD (3 * i+2) 0)
theorem Tq(a b c:Int)(r:List Int)(i:Nat):wJ (a::b::c::r) (i+1)=wJ r i:=by
 unfold wJ
 have e1:3 * (i+1)=3 * i+1+1+1:=by omega
 have e2:3 * (i+1)+1=3 * i+1+1+1+1:=by omega
 have e3:3 * (i+1)+2=3 * i+2+1+1+1:=by omega
 rw[e2,e3,e1]
 simp only[List.getD_cons_succ]
theorem Es:∀{l:List Int},l.length % 3=0→triples l=some ((List.range (l.length / 3)).map (wJ l))
 |[],_=>rfl
 |[_],h=>by simp at h
 |[_,_],h=>by simp at h
 |a::b::c::r,h=>by
  have ih:=Es (l:=r) (by simp only[List.length_cons]at h;omega)
  unfold triples
  rw[ih]
  have e:(a::b::c::r).length / 3=r.length / 3+1:=by simp only[List.length_cons];omega
  rw[e,List.range_succ_eq_map,List.map_cons,List.map_map]
  have e2:(List.range (r.length / 3)).map (wJ (a::b::c::r)∘Nat.succ)=(List.range (r.length / 3)).map (wJ r):=List.map_congr_left fun i _=>Tq a b c r i
  rw[e2]
  rfl
end Jq
end
section
set_option autoImplicit false
namespace Jq
open Vbbhaj
theorem Qj{b:Job→Job→Bool}:∀{l:List Job} {m:Job},m∈l→(∀x∈l,x=m∨(b m x=true∧b x m=false))→best b l=some m
 |[],m,h,_=>by cases h
 |j::r,m,h,hb=>by
  unfold best
  rcases List.mem_cons.mp h with e|e
  ·subst e
   cases q:best b r with
   |none=>rfl
   |some k =>
    have hk:=Eo q
    rcases hb k (List.mem_cons_of_mem _ hk)with e|e
    ·subst e
     by_cases z:b k k=true
     ·simp only[z,if_true]
     ·simp only[z]
      rfl
    ·simp only[e.1,if_true]
  ·have q:best b r=some m:=Qj e fun x hx=>hb x (List.mem_cons_of_mem _ hx)
   rw[q]
   rcases hb j List.mem_cons_self with z|z
   ·subst z
    by_cases z:b j j=true
    ·simp only[z,if_true]
    ·simp only[z]
     rfl
   ·simp only[z.2]
    rfl
def ix(cs:List Nat)(c:Nat):Nat:=cs.findIdx fun x=>x==c
theorem adB{cs:List Nat}{c:Nat}(h:c∈cs):ix cs c<cs.length:=List.findIdx_lt_length_of_exists ⟨c,h,by simp⟩
def kLt(s:State)(cs:List Nat)(a b:Job):Bool :=
 decide (ix cs a.cls<ix cs b.cls)||(decide (ix cs a.cls=ix cs b.cls)&&higher s a b)
theorem Ve{cs:List Nat}{p:Nat→Bool}{c:Nat}(hc:c∈cs)(hp:p c=true)(hm:∀d∈cs,p d=true→ix cs c≤ix cs d):cs.find? p=some c:=by
 cases q:cs.find? p with
 |none =>
  have:=List.find?_eq_none.mp q c hc
  exact absurd hp this
 |some d =>
  obtain⟨hpd,as,bs,e,hno⟩:=List.find?_eq_some_iff_append.mp q
  have hd:d∈cs:=by rw[e];simp
  have h1:=hm d hd hpd
  by_cases ed:d=c
  ·rw[ed]
  ·exfalso
   have hca:c∉as:=fun m=>by
    have:=hno c m
    rw[hp]at this
    simp at this
   have hda:d∉as:=fun m=>by
    have:=hno d m
    rw[hpd]at this
    simp at this
   have e1:ix cs d=as.length:=by
    unfold ix
    rw[e,List.findIdx_append,if_neg,List.findIdx_cons]
    ·simp
    ·intro hlt
     obtain⟨x,hx,hxe⟩:=List.findIdx_lt_length.mp hlt
     have:x=d:=by simpa using hxe
     exact hda (this▸hx)
   have e2:as.length<ix cs c:=by
    unfold ix
    rw[e,List.findIdx_append,if_neg,List.findIdx_cons]
    ·have:(d==c)=false:=by simpa using ed
     rw[this]
     simp
    ·intro hlt
     obtain⟨x,hx,hxe⟩:=List.findIdx_lt_length.mp hlt
     have:x=c:=by simpa using hxe
     exact hca (this▸hx)
   omega
theorem Sv{s:State}{x:Init}{j:Job}(h:free s x j=true):j.cls∈x.classes:=by
 unfold free at h
 simp only[Bool.and_eq_true]at h
 simpa using h.2.1
theorem Uk{s:State}(g:Good s){x:Init}{m:Job}(hm:m∈s.jobs)(hf:free s x m=true)(hd:m.due≠0)
  (hl:∀k∈s.jobs,free s x k=true→k.due≠0→m.due≤k.due):chosen s x=some m:=by
 unfold chosen
 have q:best sooner ((s.jobs.filter (free s x)).filter fun j=>decide (0<j.due))=some m:=by
  refine Qj (List.mem_filter.mpr ⟨List.mem_filter.mpr ⟨hm,hf⟩,decide_eq_true (by omega)⟩) fun k hk=>?_
  obtain⟨hk1,hk2⟩:=List.mem_filter.mp hk
  obtain⟨hk1,hk3⟩:=List.mem_filter.mp hk1
  have hk2:=of_decide_eq_true hk2
  have h1:=hl k hk1 hk3 (by omega)
  by_cases e:m.due=k.due
  ·left
   exact g.srt.inj hk1 hm (g.inj m hm k hk1 (by omega) e).symm
  ·right
   unfold sooner
   exact⟨decide_eq_true (by omega),decide_eq_false (by omega)⟩
 simp only[q]
theorem ac3{s:State}{x:Init}(h:∀k∈s.jobs,free s x k=true→k.due=0):best sooner ((s.jobs.filter (free s x)).filter fun j=>decide (0<j.due))=none:=by
 have e:((s.jobs.filter (free s x)).filter fun j=>decide (0<j.due))=[]:=by
  rw[List.filter_eq_nil_iff]
  intro k hk
  obtain⟨h1,h2⟩:=List.mem_filter.mp hk
  rw[h k h1 h2]
  simp
 rw[e]
 rfl
theorem RP{s:State}{x:Init}(h:∀k∈s.jobs,free s x k=false):chosen s x=none:=by
 unfold chosen
 have e:s.jobs.filter (free s x)=[]:=by
  rw[List.filter_eq_nil_iff]
  intro k hk
  rw[h k hk]
  simp
 rw[e]
 simp[best]
theorem yw{s:State}{a b:Job}(h:higher s a b=false)(h':higher s b a=false):a.num=b.num:=by
 unfold higher at h h'
 simp at h h'
 omega
theorem V3{s:State}(g:Good s){x:Init}{m:Job}(hm:m∈s.jobs)(hf:free s x m=true)(h0:∀k∈s.jobs,free s x k=true→k.due=0)
  (hl:∀k∈s.jobs,free s x k=true→kLt s x.classes k m=false):chosen s x=some m:=by
 unfold chosen
 simp only[ac3 h0]
 have hmf:m∈s.jobs.filter (free s x):=List.mem_filter.mpr ⟨hm,hf⟩
 have q:(x.classes.find? fun c=>(s.jobs.filter (free s x)).any fun j=>j.cls==c)=some m.cls:=by
  refine Ve (Sv hf) (List.any_eq_true.mpr ⟨m,hmf,by simp⟩) fun d hd hp=>?_
  obtain⟨k,hk,ek⟩:=List.any_eq_true.mp hp
  obtain⟨hk1,hk2⟩:=List.mem_filter.mp hk
  have ek:k.cls=d:=by simpa using ek
  have:=hl k hk1 hk2
  unfold kLt at this
  simp at this
  rw[← ek]
  omega
 rw[q]
 show best (higher s) ((s.jobs.filter (free s x)).filter fun j=>j.cls==m.cls)=some m
 refine Qj (List.mem_filter.mpr ⟨hmf,by simp⟩) fun k hk=>?_
 obtain⟨hk1,hk2⟩:=List.mem_filter.mp hk
 obtain⟨hk1,hk3⟩:=List.mem_filter.mp hk1
 have ek:k.cls=m.cls:=by simpa using hk2
 have h1:=hl k hk1 hk3
 unfold kLt at h1
 rw[ek]at h1
 have h2:higher s k m=false:=by simpa using h1
 by_cases e:k=m
 ·exact .inl e
 ·right
  refine⟨?_,h2⟩
  cases h3:higher s m k with
  |true=>rfl
  |false=>exact absurd (g.srt.inj hk1 hm (yw h2 h3)) e
theorem vW(b:Job→Job→Bool)(j:Job):∀l:List Job,(insertBy b j l).Perm (j::l)
 |[]=>List.Perm.refl _
 |k::l=>by
  unfold insertBy
  split
  ·exact List.Perm.refl _
  ·exact((vW b j l).cons k).trans (List.Perm.swap ..)
theorem yG{b:Job→Job→Bool}{j:Job}:∀{l:List Job},l.Pairwise (fun x y=>b x y=true)→(∀x∈l,b j x=true∨b x j=true)→(∀x∈l,∀y∈l,b j x=true→b x y=true→b j y=true) →
  (insertBy b j l).Pairwise (fun x y=>b x y=true)
 |[],_,_,_=>List.pairwise_singleton ..
 |k::l,h,ht,htr=>by
  obtain⟨h1,h2⟩:=List.pairwise_cons.mp h
  unfold insertBy
  split
  ·rename_i e
   refine List.pairwise_cons.mpr ⟨fun y hy=>?_,h⟩
   rcases List.mem_cons.mp hy with rfl|hy
   ·exact e
   ·exact htr k List.mem_cons_self y (List.mem_cons_of_mem _ hy) e (h1 y hy)
  ·rename_i e
   refine List.pairwise_cons.mpr ⟨fun y hy=>?_,yG h2 (fun x hx=>ht x (List.mem_cons_of_mem _ hx)) fun x hx y hy=>htr x (List.mem_cons_of_mem _ hx) y (List.mem_cons_of_mem _ hy)⟩
   rcases List.mem_cons.mp ((vW b j l).mem_iff.mp hy)with rfl|hy
   ·exact(ht k List.mem_cons_self).resolve_left e
   ·exact h1 y hy
structure Ord(b:Job→Job→Bool)(l:List Job):Prop where
 tot:∀x∈l,∀y∈l,x.num≠y.num→b x y=true∨b y x=true
 trans:∀x∈l,∀y∈l,∀z∈l,b x y=true→b y z=true→b x z=true
 acG:∀x∈l,∀y∈l,b x y=true→b y x=false
theorem qX(b:Job→Job→Bool):∀l:List Job,(l.foldr (insertBy b) []).Perm l
 |[]=>List.Perm.refl _
 |j::l=>(vW b j _).trans ((qX b l).cons j)
theorem E_{b:Job→Job→Bool}:∀{l:List Job},Ord b l→cW l→(l.foldr (insertBy b) []).Pairwise (fun x y=>b x y=true)
 |[],_,_=>List.Pairwise.nil
 |j::l,o,hs=>by
  obtain⟨s1,s2⟩:=List.pairwise_cons.mp hs
  have o':Ord b l:=⟨fun x hx y hy=>o.tot x (List.mem_cons_of_mem _ hx) y (List.mem_cons_of_mem _ hy),fun x hx y hy z hz=>o.trans x (List.mem_cons_of_mem _ hx) y (List.mem_cons_of_mem _ hy) z (List.mem_cons_of_mem _ hz),fun x hx y hy=>o.acG x (List.mem_cons_of_mem _ hx) y (List.mem_cons_of_mem _ hy)⟩
  refine yG (E_ o' s2) (fun x hx=>?_) fun x hx y hy=>?_
  ·have hx:=(qX b l).mem_iff.mp hx
   exact o.tot j List.mem_cons_self x (List.mem_cons_of_mem _ hx) (by have:=s1 x hx;omega)
  ·have hx:=(qX b l).mem_iff.mp hx
   have hy:=(qX b l).mem_iff.mp hy
   exact o.trans j List.mem_cons_self x (List.mem_cons_of_mem _ hx) y (List.mem_cons_of_mem _ hy)
theorem WR{b:Job→Job→Bool}:∀{l₁ l₂:List Job},l₁.Perm l₂→(∀x∈l₁,∀y∈l₁,b x y=true→b y x=false)→l₁.Pairwise (fun x y=>b x y=true)→l₂.Pairwise (fun x y=>b x y=true)→l₁=l₂
 |[],l₂,p,_,_,_=>by rw[List.nil_perm.mp p]
 |a::r,l₂,p,ha,h1,h2=>by
  cases l₂ with
  |nil=>exact absurd p.length_eq (by simp)
  |cons c q =>
   obtain⟨a1,a2⟩:=List.pairwise_cons.mp h1
   obtain⟨c1,c2⟩:=List.pairwise_cons.mp h2
   have e:a=c:=by
    have m1:a∈c::q:=p.mem_iff.mp List.mem_cons_self
    have m2:c∈a::r:=p.mem_iff.mpr List.mem_cons_self
    rcases List.mem_cons.mp m1 with e|m1
    ·exact e
    ·rcases List.mem_cons.mp m2 with e | m2
     ·exact e.symm
     ·have x1:=a1 c m2
      have x2:=c1 a m1
      rw[ha a List.mem_cons_self c (List.mem_cons_of_mem _ m2) x1]at x2
      cases x2
   subst e
   rw[WR (List.Perm.cons_inv p) (fun x hx y hy=>ha x (List.mem_cons_of_mem _ hx) y (List.mem_cons_of_mem _ hy)) a2 c2]
theorem ZM{s:State}(g:Good s){l:List Job}(h:∀x∈l,x∈s.jobs):Ord (goesBefore s) l where
 tot:=fun x hx y hy ne=>by
  have i1:=g.inj x (h x hx) y (h y hy)
  have hh:=@yw s x y
  unfold goesBefore
  by_cases a:0<x.due<;>by_cases c:0<y.due
  ·simp only[a,c,if_true]
   by_cases e:x.due=y.due
   ·exact absurd (i1 a e) ne
   ·simp only[Bool.or_eq_true,decide_eq_true_eq];omega
  ·simp only[a,c,if_true];left;simp;omega
  ·simp only[a,c,if_true];right;simp;omega
  ·simp only[a,c]
   have e1:x.due=0:=by omega
   have e2:y.due=0:=by omega
   simp only[e1,e2]
   cases h1:higher s x y with
   |true=>simp
   |false =>
    cases h2:higher s y x with
    |true=>simp
    |false=>exact absurd (hh h1 h2) ne
 trans:=fun x hx y hy z hz=>by
  unfold goesBefore higher
  by_cases a:0<x.due<;>by_cases c:0<y.due<;>by_cases d:0<z.due<;>simp[a,c,d]<;>omega
 acG:=fun x hx y hy=>by
  unfold goesBefore higher
  by_cases a:0<x.due<;>by_cases c:0<y.due<;>simp[a,c]<;>omega
theorem Um{s:State}(g:Good s){c:Nat}{D O:List Job}(hD:D.Perm ((s.jobs.filter fun j=>ready j&&j.cls==c).filter fun j=>decide (j.due≠0)))
  (hO:O.Perm ((s.jobs.filter fun j=>ready j&&j.cls==c).filter fun j=>!decide (j.due≠0))) (sD:D.Pairwise fun x y=>x.due≤y.due) (sO:O.Pairwise fun x y=>higher s y x=false):D++O=inOrder s c:=by
 have hl:∀x∈(s.jobs.filter fun j=>ready j&&j.cls==c),x∈s.jobs:=fun x hx=>(List.mem_filter.mp hx).1
 have hs:cW (s.jobs.filter fun j=>ready j&&j.cls==c):=List.Pairwise.sublist List.filter_sublist g.srt
 have ord:=ZM g hl
 have pm:(D++O).Perm (s.jobs.filter fun j=>ready j&&j.cls==c):=by
  refine(hD.append hO).trans ?_
  exact List.filter_append_perm _ _
 have mD:∀x∈D,x∈s.jobs∧x.due≠0:=fun x hx=>by
  obtain⟨h1,h2⟩:=List.mem_filter.mp (hD.mem_iff.mp hx)
  exact⟨hl x h1,of_decide_eq_true h2⟩
 have mO:∀x∈O,x∈s.jobs∧x.due=0:=fun x hx=>by
  obtain⟨h1,h2⟩:=List.mem_filter.mp (hO.mem_iff.mp hx)
  exact⟨hl x h1,by simpa using h2⟩
 have nd:∀{l:List Job},(D++O).Nodup:=by
  intro _
  refine pm.nodup_iff.mpr ?_
  exact hs.imp fun h e=>by rw[e]at h;exact absurd h (Nat.lt_irrefl _)
 have ndD:=(List.nodup_append.mp (nd (l:=[]))).1
 have ndO:=(List.nodup_append.mp (nd (l:=[]))).2.1
 refine WR (b:=goesBefore s) (pm.trans (qX _ _).symm) (fun x hx y hy=>ord.acG x (pm.mem_iff.mp hx) y (pm.mem_iff.mp hy)) ?_ (E_ ord hs)
 refine List.pairwise_append.mpr ⟨?_,?_,fun x hx y hy=>?_⟩
 ·refine(sD.and ndD).imp_of_mem ?_
  intro x y hx hy ⟨h1,h2⟩
  obtain⟨x1,x2⟩:=mD x hx
  obtain⟨y1,y2⟩:=mD y hy
  have h3:x.due≠y.due:=fun e=>h2 (g.srt.inj x1 y1 (g.inj x x1 y y1 (by omega) e))
  unfold goesBefore
  rw[if_pos (by omega)]
  simp only[Bool.or_eq_true,decide_eq_true_eq]
  right;omega
 ·refine(sO.and ndO).imp_of_mem ?_
  intro x y hx hy ⟨h1,h2⟩
  obtain⟨x1,x2⟩:=mO x hx
  obtain⟨y1,y2⟩:=mO y hy
  have h3:higher s x y=true:=by
   cases q:higher s x y with
   |true=>rfl
   |false=>exact absurd (g.srt.inj x1 y1 (yw q h1)) h2
  unfold goesBefore
  rw[if_neg (by omega),y2,h3]
  rfl
 ·obtain⟨x1,x2⟩:=mD x hx
  obtain⟨y1,y2⟩:=mO y hy
  unfold goesBefore
  rw[if_pos (by omega),y2]
  rfl
end Jq
end
section
set_option autoImplicit false
set_option linter.all false
namespace Jq
open Vbbhaj
def po1(k:Nat)(j:Job)(st:Nat):Job:={j with passed:=j.passed+1,due:=if j.due=0∧k≤j.passed+1 then st else j.due}
def poS(k:Nat)(j:Job)(st:Nat):Nat:=if j.due=0∧k≤j.passed+1 then st+1 else st
def poF(k:Nat):List Job→Nat→List Job→Nat×List Job
 |[],st,l=>(st,l)
 |j::r,st,l=>poF k r (poS k j st) (setJob l (po1 k j st))
theorem Iv(k:Nat)(j:Job)(st:Nat):(po1 k j st).num=j.num:=rfl
theorem Q4(k:Nat):∀(r:List Job) (j:Job) (st:Nat) (l:List Job),poF k (r++[j]) st l=(poS k j (poF k r st l).1,setJob (poF k r st l).2 (po1 k j (poF k r st l).1))
 |[],j,st,l=>rfl
 |i::r,j,st,l=>Q4 k r j _ _
theorem K7{x j:Job}{l:List Job}(h:x.num≠j.num):setJob (x::l) j=x::setJob l j:=by
 unfold setJob
 rw[List.map_cons,if_neg h]
theorem JQ(k:Nat){x:Job}:∀(r:List Job) (st:Nat) (l:List Job),(∀j∈r,x.num≠j.num)→poF k r st (x::l)=((poF k r st l).1,x::(poF k r st l).2)
 |[],st,l,_=>rfl
 |j::r,st,l,h=>by
  unfold poF
  rw[K7 (by rw[Iv];exact h j List.mem_cons_self)]
  exact JQ k r _ _ fun i hi=>h i (List.mem_cons_of_mem _ hi)
theorem zm(s:State)(x:Init)(p:Nat):∀(l:List Job) (st:Nat),cW l→passOver s x p st l=poF s.passes (l.filter fun j=>decide (j.num≠p)&&free s x j) st l
 |[],st,_=>rfl
 |j::r,st,h=>by
  obtain⟨h1,h2⟩:=List.pairwise_cons.mp h
  have nr:∀i∈(r.filter fun j=>decide (j.num≠p)&&free s x j),j.num≠i.num:=fun i hi=>by
   have:=h1 i (List.mem_filter.mp hi).1
   omega
  by_cases c:j.num≠p∧free s x j=true
  ·rw[List.filter_cons_of_pos (by simp only[Bool.and_eq_true,decide_eq_true_eq];exact c)]
   unfold passOver
   rw[if_pos c]
   show(_,_)=poF s.passes _ (poS s.passes j st) (setJob (j::r) (po1 s.passes j st))
   have e:setJob (j::r) (po1 s.passes j st)=po1 s.passes j st::r:=by
    unfold setJob
    rw[List.map_cons,if_pos (Iv _ _ _).symm]
    congr 1
    have:r.map (fun x=>if x.num=(po1 s.passes j st).num then po1 s.passes j st else x)=r.map id:=List.map_congr_left fun y hy=>if_neg (by have:=h1 y hy;rw[Iv];omega)
    rw[this,List.map_id]
   rw[e,JQ _ _ _ _ (by rw[Iv];exact nr),← zm s x p r _ h2]
   rfl
  ·rw[List.filter_cons_of_neg (by simp only[Bool.and_eq_true,decide_eq_true_eq];exact c)]
   unfold passOver
   rw[if_neg c,JQ _ _ _ _ nr,← zm s x p r _ h2]
end Jq
end
section
set_option autoImplicit false
set_option linter.all false
namespace Jq
open Vbbhaj
theorem Zt:∀(n:Nat) (l:List Int),l.length=n→l.eraseDups.length≤l.length∧(l.eraseDups.length=l.length↔l.Nodup):=by
 intro n
 induction n using Nat.strongRecOn with
 |ind n ih =>
  intro l hl
  cases l with
  |nil=>simp
  |cons a r =>
   rw[List.eraseDups_cons,List.length_cons,List.length_cons,List.nodup_cons]
   have h1:=List.length_filter_le (fun b=>!b==a) r
   obtain⟨h2,h3⟩:=ih (r.filter fun b=>!b==a).length (by rw[List.length_cons]at hl;omega) _ rfl
   refine⟨by omega,⟨fun e=>?_,fun⟨e1,e2⟩=>?_⟩⟩
   ·have e4:(r.filter fun b=>!b==a).length=r.length:=by omega
    have e5:(r.filter fun b=>!b==a)=r:=List.filter_eq_self.mpr (List.length_filter_eq_length_iff.mp e4)
    refine⟨fun m=>?_,?_⟩
    ·have:=List.filter_eq_self.mp e5 a m
     simp at this
    ·have:=h3.mp (by omega)
     rw[e5]at this
     exact this
   ·have e5:(r.filter fun b=>!b==a)=r:=List.filter_eq_self.mpr fun x hx=>by
     simp
     intro q
     exact e1 (q▸hx)
    rw[e5]at h3 ⊢
    have:=h3.mpr e2
    omega
theorem vY(l:List Int):areClasses l=(decide (1≤l.length∧l.length≤8)&&(l.all isClass&&decide l.Nodup)):=by
 unfold areClasses
 congr 2
 rw[Bool.eq_iff_iff]
 simp only[beq_iff_eq,decide_eq_true_eq]
 exact(Zt _ l rfl).2
end Jq
end
section
set_option Elab.async false
set_option linter.all false
set_option maxRecDepth 100000
namespace L2
open PySem PySem.Spec PyProof.Rows
abbrev Key:=Sum Int Str
def Jo:Key→Value→Bool
 |.inl k,v=>Value.isInt k v
 |.inr x,v=>Value.isStrOf x v
def aei(w:World):Key→Int
 |.inl k=>hashInt k
 |.inr x=>hashStr w x
theorem gB:∀{k:Key} {v:Value},Jo k v=true→(∃i t,k=Sum.inl i∧v=Value.int i t)∨(∃x t,k=Sum.inr x∧v=Value.str x t)
 |.inl i,v,h=>by
  obtain⟨t,e⟩:=Value.isInt_shape (k:=i) (v:=v) h
  exact .inl ⟨i,t,rfl,e⟩
 |.inr x,v,h=>by
  obtain⟨t,e⟩:=Value.isStrOf_shape (x:=x) (v:=v) h
  exact .inr ⟨x,t,rfl,e⟩
theorem Xy(i:Int)(t:Tok):Jo (.inl i) (.int i t)=true:=by simp[Jo,Value.isInt]
theorem Yb(x:Str)(t:Tok):Jo (.inr x) (.str x t)=true:=by simp[Jo,Value.isStrOf]
theorem adt(a b:Int):decide ((Sum.inl a:Key)=Sum.inl b)=(a==b):=by
 by_cases e:a=b
 ·subst e;simp
 ·have h:¬(Sum.inl a:Key)=Sum.inl b:=fun q=>e (Sum.inl.inj q)
  rw[decide_eq_false h]
  exact(beq_eq_false_iff_ne.mpr e).symm
theorem ac6(a b:Str):decide ((Sum.inr a:Key)=Sum.inr b)=decide (a=b):=by
 by_cases e:a=b
 ·subst e;simp
 ·have h:¬(Sum.inr a:Key)=Sum.inr b:=fun q=>e (Sum.inr.inj q)
  rw[decide_eq_false h,decide_eq_false e]
theorem ac4(a:Int)(b:Str):decide ((Sum.inl a:Key)=Sum.inr b)=false:=decide_eq_false (fun q=>nomatch q)
theorem adk(a:Str)(b:Int):decide ((Sum.inr a:Key)=Sum.inl b)=false:=decide_eq_false (fun q=>nomatch q)
def e_(prog:Program)(w:World):PySem.KeyKind prog w Key where
 is:=Jo
 hash:=aei w
 inj:=fun v a b ha hb=>by
  rcases gB ha with ⟨i,t,rfl,rfl⟩|⟨x,t,rfl,rfl⟩
  ·rcases gB hb with ⟨j,u,rfl,e⟩ | ⟨y,u,rfl,e⟩
   ·injection e with e1 _;rw[e1]
   ·exact nomatch e
  ·rcases gB hb with ⟨j,u,rfl,e⟩ | ⟨y,u,rfl,e⟩
   ·exact nomatch e
   ·injection e with e1 _;rw[e1]
 byValue:=fun k v h=>by
  rcases gB h with ⟨i,t,rfl,rfl⟩|⟨x,t,rfl,rfl⟩<;>rfl
 pyHash:=fun hv h=>by
  rcases gB hv with ⟨i,t,rfl,rfl⟩|⟨x,t,rfl,rfl⟩
  ·exact wpAny_pyHash_int h
  ·exact wpAny_pyHash_str h
 eqBool:=fun hu hv h=>by
  rcases gB hu with ⟨i,t,rfl,rfl⟩|⟨x,t,rfl,rfl⟩
  ·rcases gB hv with ⟨j,u,rfl,rfl⟩ | ⟨y,u,rfl,rfl⟩
   ·rw[adt]at h;exact wpAny_eqBool_int h
   ·rw[ac4]at h;exact SeqAt.EqAt.int_str i t y u _ _ _ _ h
  ·rcases gB hv with ⟨j,u,rfl,rfl⟩ | ⟨y,u,rfl,rfl⟩
   ·rw[adk]at h;exact SeqAt.EqAt.str_int x t j u _ _ _ _ h
   ·rw[ac6]at h;exact wpAny_eqBool_str h
 «strs»:=fun k x t v h=>by
  rcases gB h with ⟨i,u,rfl,e⟩|⟨y,u,rfl,e⟩
  ·exact nomatch e
  ·injection e with e1 _
   subst e1
   cases v<;>rfl
theorem zM(prog:Program)(w:World)(i:Int)(t:Tok):(e_ prog w).is (.inl i) (.int i t)=true:=Xy i t
theorem S9(prog:Program)(w:World)(x:Str)(t:Tok):(e_ prog w).is (.inr x) (.str x t)=true:=Yb x t
end L2
namespace L2
open PySem PySem.Spec PyProof.Rows
inductive V where
 |non | bl (b:Bool) | int (i:Int) | str (x:Str) | byt (b:Array UInt8) | flt (b:UInt64) | ref (a:Addr) | ty (n:String)
 deriving DecidableEq
def RelV:V→Value→Prop
 |.non,u=>u=Value.none
 |.bl b,u=>u=Value.bool b
 |.int i,u=>∃t,u=Value.int i t
 |.str x,u=>∃t,u=Value.str x t
 |.byt b,u=>∃t,u=Value.bytes b t
 |.flt b,u=>∃t,u=Value.float b t
 |.ref a,u=>u=Value.ref a
 |.ty n,u=>u=Value.type n
abbrev Vals:List V→List Value→Prop:=Paired RelV
theorem Vals.length{xs:List V}{us:List Value}(r:Vals xs us):xs.length=us.length:=Paired.length r
theorem Vals.get:∀{xs:List V} {us:List Value} {i:Nat} {x:V},Vals xs us→xs[i]?=some x→∃u,us[i]?=some u∧RelV x u
 |_,_,_,_,.nil,e=>by simp at e
 |_,_,0,_,.cons r _,e=>by simp at e;subst e;exact⟨_,rfl,r⟩
 |_,_,i+1,x,.cons _ t,e=>by
  obtain⟨u,h1,h2⟩:=Vals.get (i:=i) (x:=x) t (by simpa using e)
  exact⟨u,by simpa using h1,h2⟩
theorem Vals.append:∀{xs ys:List V} {us ws:List Value},Vals xs us→Vals ys ws→Vals (xs++ys) (us++ws)
 |_,_,_,_,.nil,s=>s
 |_,_,_,_,.cons r t,s=>.cons r (Vals.append t s)
theorem Vals.take:∀{xs:List V} {us:List Value} (n:Nat),Vals xs us→Vals (xs.take n) (us.take n)
 |_,_,0,_=>.nil
 |_,_,_+1,.nil=>.nil
 |_,_,n+1,.cons r t=>.cons r (Vals.take n t)
theorem Vals.drop:∀{xs:List V} {us:List Value} (n:Nat),Vals xs us→Vals (xs.drop n) (us.drop n)
 |_,_,0,r=>r
 |_,_,_+1,.nil=>.nil
 |_,_,n+1,.cons _ t=>Vals.drop n t
def zb:Option V→Option Value→Prop
 |some v,some u=>RelV v u
 |none,none=>True
 |_,_=>False
def KV{κ:Type}:List (κ×V)→List (κ×Value)→Prop:=Paired fun(p:κ×V) (q:κ×Value)=>p.1=q.1∧RelV p.2 q.2
def kV:Key→V
 |.inl i=>.int i
 |.inr x=>.str x
inductive HO where
 |lst (xs:List V)
 |tup (xs:List V)
 |dK (kvs:List (Key×V)) | dT (kvs:List (List Key×V))
 |set (S:Int→Bool) (n:Nat)
 |ins (C dx:Addr) (fs:List (Str×V))
 |own (x:Addr)
 |xd (fs:List (Str×V))
 |met (f x:Addr)
 |rng (lo hi:Int)
 |frz (o:Obj) (u:HO)
 |tbl (ps:Array Value)
 |ext (φ:Heap→Prop)
abbrev Hp:=Addr→Option HO
def upd(H:Hp)(a:Addr)(o:HO):Hp:=fun b=>if b=a then some o else H b
theorem aX{H:Hp}{a:Addr}{o:HO}:upd H a o a=some o:=by unfold upd;rw[if_pos rfl]
theorem aO{H:Hp}{a b:Addr}{o:HO}(h:b≠a):upd H a o b=H b:=by unfold upd;rw[if_neg h]
theorem cB{H:Hp}{a b:Addr}{o u:HO}(h:H a=some o)(h':H b=some u)(d:o≠u):a≠b:=by
 intro e;subst e;rw[h]at h';exact d (Option.some.inj h')
theorem bj{H:Hp}{a b:Addr}{o:HO}(h:H a=some o)(h':H b=none):a≠b:=by
 intro e;subst e;rw[h]at h';cases h'
section
variable (P:Program)(w:World)
def iz(H:Hp)(h:Heap)(a:Addr):HO→Prop
 |.lst xs=>xs.length≤sizeLine∧∃(its:List Value) (n:Nat),Vals xs its∧h.get? a=some {cls:=.type "list",data:=.seq its.toArray n}
 |.tup xs=>xs.length≤sizeLine∧∃its:List Value,Vals xs its∧IsTup h a its.toArray
 |.dK kvs=>kvs.length≤sizeLine∧(a==sysModules)=false∧∃vs,KV kvs vs∧h.DictOf (e_ P w) a vs
 |.dT kvs=>kvs.length≤sizeLine∧(a==sysModules)=false∧∃xs:List (List Key×Addr×Value),
   Paired (fun(p:List Key×V) (q:List Key×Addr×Value)=>p.1=q.1∧H q.2.1=some (.tup (p.1.map kV))∧RelV p.2 q.2.2) kvs xs ∧
   ∃o es ep,h.get? a=some o∧o.ExactDict∧o.data=.dict es ep∧es.toList=xs.map (entryOfKey (tupleKind (e_ P w)))∧(xs.map (·.1)).Nodup
 |.set S n=>h.SetOf (intKind P w) a S n
 |.ins C dx fs=>H dx=some (.own a)∧fs.length≤1000∧dx≠a∧h.get? a=some (PySem.W.instObj C dx) ∧
   ∃mA,h.Ns1 dx mA∧(∀f,zb (fs.lookup f) (mA f))∧PySem.Within mA (fs.map (·.1))
 |.own _=>∃o,h.get? a=some o
 |.xd fs=>∃mA,h.Ns1 a mA∧∀f,zb (fs.lookup f) (mA f)
 |.rng lo hi=>∃t u v,h.get? a=some {cls:=.type "range",data:=.fields #[.int lo t,.int hi u,.int 1 v]}
 |.frz o u=>h.get? a=some o∧iz H h a u
 |.tbl ps=>h.get? a=some {cls:=.none,data:=.fields ps}
 |.met f x=>h.get? a=some (PySem.W.methodObj (.ref f) (.ref x))
 |.ext φ=>φ h∧(∃o,h.get? a=some o)∧∀h1 h2:Heap,φ h1→(∀o,h1.get? a=some o→h2.get? a=some o)→φ h2
def HOk(H:Hp)(h:Heap):Prop:=∀a o,H a=some o→iz P w H h a o
end
section
variable {P:Program}{w:World}{H H':Hp}{h h':Heap}{a:Addr}{o:HO}
theorem iz.lt(x:iz P w H h a o):a<h.objs.size:=by
 cases o with
 |lst xs=>obtain⟨_,_,_,_,e⟩:=x;exact Heap.lt_size e
 |tup xs=>obtain⟨_,_,_,p⟩:=x;exact p.lt
 |dK kvs=>obtain⟨_,_,_,_,o,_,_,e,_⟩:=x;exact Heap.lt_size e
 |dT kvs=>obtain⟨_,_,_,_,o,_,_,e,_⟩:=x;exact Heap.lt_size e
 |set S n=>obtain⟨o,_,_,_,e,_⟩:=x;exact Heap.lt_size e
 |ins C dx fs=>obtain⟨_,_,_,e,_⟩:=x;exact Heap.lt_size e
 |own y=>obtain⟨_,e⟩:=x;exact Heap.lt_size e
 |xd fs=>obtain⟨_,⟨_,_,_,e,_⟩,_⟩:=x;exact Heap.lt_size e
 |rng lo hi=>obtain⟨_,_,_,e⟩:=x;exact Heap.lt_size e
 |frz ob u=>obtain⟨e,_⟩:=x;exact Heap.lt_size e
 |tbl ps=>exact Heap.lt_size (show h.get? a=some _ from x)
 |met f y=>exact Heap.lt_size (show h.get? a=some _ from x)
 |ext φ=>obtain⟨_,⟨_,e⟩,_⟩:=x;exact Heap.lt_size e
theorem Paired.ac7{α β:Type}{F G:α→β→Prop}:∀{l₁:List α} {l₂:List β},Paired F l₁ l₂→(∀a b,F a b→G a b)→Paired G l₁ l₂
 |_,_,.nil,_=>.nil
 |_,_,.cons r t,f=>.cons (f _ _ r) (Paired.ac7 t f)
theorem iz.stay(x:iz P w H h a o)(k:∀b u,(b=a∨H b=some (.own a))→h.get? b=some u→h'.get? b=some u)
  (ho:∀b,H b=some (.own a)→H' b=some (.own a)) (ht:∀b xs,H b=some (.tup xs)→H' b=some (.tup xs)):iz P w H' h' a o:=by
 induction o with
 |lst xs=>obtain⟨z,its,n,r,e⟩:=x;exact⟨z,its,n,r,k _ _ (.inl rfl) e⟩
 |tup xs=>obtain⟨z,its,r,ob,e,c⟩:=x;exact⟨z,its,r,ob,k _ _ (.inl rfl) e,c⟩
 |dK kvs=>obtain⟨z,y,vs,r,ob,es,ep,e,c⟩:=x;exact⟨z,y,vs,r,ob,es,ep,k _ _ (.inl rfl) e,c⟩
 |dT kvs =>
  obtain⟨z,y,xs,r,ob,es,ep,e,c⟩:=x
  exact⟨z,y,xs,Paired.ac7 r fun p q z=>⟨z.1,ht _ _ z.2.1,z.2.2⟩,ob,es,ep,k _ _ (.inl rfl) e,c⟩
 |set S n=>obtain⟨ob,es,ep,t,e,c⟩:=x;exact⟨ob,es,ep,t,k _ _ (.inl rfl) e,c⟩
 |ins C dx fs =>
  obtain⟨d,z,ne,e,mA,⟨od,es,ep,e2,c⟩,r⟩:=x
  exact⟨ho _ d,z,ne,k _ _ (.inl rfl) e,mA,⟨od,es,ep,k _ _ (.inr d) e2,c⟩,r⟩
 |own y=>obtain⟨ob,e⟩:=x;exact⟨ob,k _ _ (.inl rfl) e⟩
 |xd fs=>obtain⟨mA,⟨od,es,ep,e,c⟩,r⟩:=x;exact⟨mA,⟨od,es,ep,k _ _ (.inl rfl) e,c⟩,r⟩
 |rng lo hi=>obtain⟨t,u,v,e⟩:=x;exact⟨t,u,v,k _ _ (.inl rfl) e⟩
 |frz ob u ih=>obtain⟨e,q⟩:=x;exact⟨k _ _ (.inl rfl) e,ih q⟩
 |tbl ps =>
  have e:h.get? a=some {cls:=.none,data:=.fields ps}:=x
  show h'.get? a=some {cls:=.none,data:=.fields ps}
  exact k a _ (.inl rfl) e
 |met f y =>
  have e:h.get? a=some (PySem.W.methodObj (.ref f) (.ref y)):=x
  show h'.get? a=some (PySem.W.methodObj (.ref f) (.ref y))
  exact k a _ (.inl rfl) e
 |ext φ=>obtain⟨p,⟨o,e⟩,st⟩:=x;exact⟨st _ _ p fun o q=>k _ _ (.inl rfl) q,⟨o,k _ _ (.inl rfl) e⟩,st⟩
theorem HOk.lt(x:HOk P w H h)(e:H a=some o):a<h.objs.size:=(x a o e).lt
theorem HOk.fresh(x:HOk P w H h)(e:h.objs.size≤a):H a=none:=by
 cases q:H a with
 |none=>rfl
 |some u=>exact absurd (Nat.lt_of_lt_of_le (x.lt q) e) (Nat.lt_irrefl _)
theorem HOk.kept(x:HOk P w H h)(k:∀b u,h.get? b=some u→h'.get? b=some u):HOk P w H h':=fun a o e =>
 (x a o e).stay (fun b u _ q=>k b u q) (fun _ q=>q) fun _ _ q=>q
theorem HOk.laid(x:HOk P w H h)(k:∀b u,h.get? b=some u→h'.get? b=some u)(hp:h.objs.size≤a)(new:iz P w (upd H a o) h' a o):HOk P w (upd H a o) h':=fun b u e=>by
 have hn:=x.fresh hp
 by_cases hb:b=a
 ·subst hb;rw[aX]at e;cases e;exact new
 ·rw[aO hb]at e
  exact(x b u e).stay (fun c v _ q=>k c v q) (fun c q=>by rw[aO (bj q hn)];exact q) fun c xs q=>by rw[aO (bj q hn)];exact q
end
def Rd(H:Hp)(a:Addr)(u:HO):Prop:=H a=some u∨∃o,H a=some (.frz o u)
theorem Rd.ok{P:Program}{w:World}{H:Hp}{h:Heap}{a:Addr}{u:HO}(r:Rd H a u)(x:HOk P w H h):iz P w H h a u:=by
 rcases r with r|⟨o,r⟩
 ·exact x a u r
 ·obtain⟨_,q⟩:=x a _ r
  exact q
def Mut:Option HO→Prop
 |some (.lst _)=>True
 |some (.dK _)=>True
 |some (.dT _)=>True
 |some (.set _ _)=>True
 |some (.ins _ _ _)=>True
 |some (.ext _)=>True
 |_=>False
section
variable {P:Program}{w:World}{H:Hp}{h h':Heap}{x e:Addr}{o':HO}
theorem HOk.write(ok:HOk P w H h)(mu:Mut (H x))(he:e=x∨H e=some (.own x))(k:∀b u,b≠e→h.get? b=some u→h'.get? b=some u)(heo:∃u,h'.get? e=some u)
  (new:iz P w (upd H x o') h' x o'):HOk P w (upd H x o') h':=fun b u q=>by
 have nown:∀c y,H c=some (.own y)→c≠x:=fun c y r z=>by subst z;rw[r]at mu;exact mu
 have ntup:∀c xs,H c=some (.tup xs)→c≠x:=fun c xs r z=>by subst z;rw[r]at mu;exact mu
 by_cases hb:b=x
 ·subst hb;rw[aX]at q;cases q;exact new
 ·rw[aO hb]at q
  by_cases hbe:b=e
  ·have q':H b=some (.own x):=by
    rcases he with z|z
    ·exact absurd (hbe.trans z) hb
    ·rw[hbe];exact z
   rw[q]at q';cases q'
   obtain⟨v,hv⟩:=heo
   exact⟨v,by rw[hbe];exact hv⟩
  ·refine(ok b u q).stay (fun c v hc r=>k c v ?_ r) (fun c r=>by rw[aO (nown c b r)];exact r) fun c xs r=>by rw[aO (ntup c xs r)];exact r
   rcases hc with rfl|hc
   ·exact hbe
   ·rintro rfl
    rcases he with z|z
    ·exact nown c b hc z
    ·rw[hc]at z;cases z;exact hb rfl
end
structure Un(fs ex:List Addr)(H H':Hp)(h h':Heap):Prop where
 keep:∀b o,h.get? b=some o→H b=none→b∉fs→b∉ex→h'.get? b=some o
 slot:∀b o,h.get? b=some o→H b=none→b∈fs→b∉ex→∃sl,h'.get? b=some {o with slots:=sl}
 free:∀b o,h.get? b=some o→H b=none→b∉ex→H' b=none
 there:∀b o,h.get? b=some o→b∉ex→∃o',h'.get? b=some o'
 tups:∀b xs,H b=some (.tup xs)→H' b=some (.tup xs)
 Le:∀b o u,H b=some (.frz o u)→H' b=some (.frz o u)
 J0:∀b ps,H b=some (.tbl ps)→∃more,H' b=some (.tbl (ps++more))
section
variable {fs fs' ex ex':List Addr}{H H1 H2:Hp}{h h1 h2 h':Heap}{a x e:Addr}{o:HO}
theorem Un.any(u:Un fs ex H H1 h h1){b:Addr}{ob:Obj}(q:h.get? b=some ob)(n:H b=none)(hx:b∉ex):∃sl,h1.get? b=some {ob with slots:=sl}:=by
 by_cases hb:b∈fs
 ·exact u.slot b ob q n hb hx
 ·exact⟨ob.slots,u.keep b ob q n hb hx⟩
theorem Un.kept(k:∀b u,h.get? b=some u→h'.get? b=some u):Un fs ex H H h h' :=
 ⟨fun b ob q _ _ _=>k b ob q,fun b ob q _ _ _=>⟨ob.slots,k b ob q⟩,fun _ _ _ n _=>n,fun b ob q _=>⟨ob,k b ob q⟩,fun _ _ q=>q,fun _ _ _ q=>q,fun _ ps q=>⟨#[],by rw[q];simp⟩⟩
theorem Un.refl:Un fs ex H H h h:=Un.kept fun _ _ q=>q
theorem Un.laid(k:∀b u,h.get? b=some u→h'.get? b=some u)(hp:h.objs.size≤a)(hn:H a=none):Un fs ex H (upd H a o) h h' where
 keep:=fun b u q _ _ _=>k b u q
 slot:=fun b u q _ _ _=>⟨u.slots,k b u q⟩
 free:=fun b u q n _=>by rw[aO (Nat.ne_of_lt (Nat.lt_of_lt_of_le (Heap.lt_size q) hp))];exact n
 there:=fun b u q _=>⟨u,k b u q⟩
 tups:=fun b xs q=>by rw[aO (bj q hn)];exact q
 Le:=fun b u xs q=>by rw[aO (bj q hn)];exact q
 J0:=fun b ps q=>⟨#[],by rw[aO (bj q hn),q];simp⟩
theorem Un.write(mu:Mut (H x))(he:e=x∨H e=some (.own x))(k:∀b u,b≠e→h.get? b=some u→h'.get? b=some u)(heo:∃u,h'.get? e=some u):Un fs ex H (upd H x o) h h':=by
 have hx:∀b,H b=none→b≠x:=fun b n z=>by subst z;rw[n]at mu;exact mu
 have hb:∀b,H b=none→b≠e:=fun b n z=>by
  subst z
  rcases he with r|r
  ·exact hx b n r
  ·rw[n]at r;cases r
 have hm:∀b u,H b=some u→¬Mut (some u)→b≠x:=fun b u q nm z=>by subst z;rw[q]at mu;exact nm mu
 refine⟨fun b u q n _ _=>k b u (hb b n) q,fun b u q n _ _=>⟨u.slots,k b u (hb b n) q⟩,fun b u q n _=>by rw[aO (hx b n)];exact n,fun b u q _=>?_,
  fun b xs q=>by rw[aO (hm b _ q fun z=>z)];exact q,fun b u xs q=>by rw[aO (hm b _ q fun z=>z)];exact q,fun b ps q=>⟨#[],by rw[aO (hm b _ q fun z=>z),q];simp⟩⟩
 by_cases hbe:b=e
 ·subst hbe;exact heo
 ·exact⟨u,k b u hbe q⟩
end
def trk(h:Heap)(H:Hp):List Addr:=(List.range h.objs.size).filter fun a=>(H a).isSome
def Mq(h:Heap)(H:Hp):Heap:=PySem.W.hideAll h (trk h H)
theorem Xu(h:Heap)(H:Hp):(Mq h H).objs.size=h.objs.size:=PySem.W.hideAll_size _ _
theorem Zc{h:Heap}{H:Hp}{b:Addr}{o:Obj}(e:h.get? b=some o)(n:H b=none):(Mq h H).get? b=some o :=
 PySem.W.hideAll_get _ e fun hm=>by
  have q:(H b).isSome=true:=(List.mem_filter.mp hm).2
  rw[n]at q;simp at q
theorem abJ{h:Heap}{H:Hp}{b:Addr}{o:Obj}(e:(Mq h H).get? b=some o):h.get? b=some o∧H b=none:=by
 have e':h.get? b=some o:=PySem.W.of_hideAll (trk h H) e
 refine⟨e',?_⟩
 cases q:H b with
 |none=>rfl
 |some x =>
  have hm:b∈trk h H:=List.mem_filter.mpr ⟨List.mem_range.mpr (Heap.lt_size e'),by simp[q]⟩
  have z:(Mq h H).get? b=none:=PySem.W.hideAll_none (trk h H) hm
  rw[z]at e;cases e
end L2
namespace L2
open PySem PySem.Spec PyProof.Rows
structure Mod(K:PySem.W.Frag)(mg:Str→Option Value)(base:Heap):Prop where
 kin:K.In base
 glob:base.Ns mainGlobals mg
 blt:∃mb,base.Ns builtinsNs mb∧∀x:Str,x≠"__name__"→mb x=bootBuiltins x
 nolimit:base.NoLimit
structure Cx where
 prog:Program
 w:World
 K:PySem.W.Frag
 mg:Str→Option Value
 base:Heap
 A:Around
 N:List Str
 s_0:Shared
 H_0:Hp
 env:Env
 outer:List Env
 stack:List Env
 ex:List Addr
 fn:Str→Bool
 calm:Bool
 pn:List (Addr×Obj)
 xe:Value→Shared→Prop
def frs(l:List Env):List Addr:=l.filterMap (·.frame)
abbrev Cx.fs(X:Cx):List Addr:=frs X.outer
def Vis(sc:Scope)(x:Str):Prop:=sc.names.lookup x=some .local∨sc.names.lookup x=some .cell∨sc.names.lookup x=some .free
def Loc(sc:Scope)(x:Str):Prop:=sc.names.lookup x=some .local∨sc.names.lookup x=some .cell
def Look(env:Env)(h:Heap)(m:Str→Option Value)(x:Str)(u:Value):Prop :=
 (env.kindOf x=some .local∧m x=some u)∨((env.kindOf x=some .cell∨env.kindOf x=some .free)∧∃c,env.cells.lookup x=some c∧h.IsCell c (some u))
structure Cx.Ok(X:Cx):Prop where
 mod:Mod X.K X.mg X.base
 kind:X.env.scope.kind=.function
 glob:X.env.globals=mainGlobals
 blt:X.env.builtins=builtinsNs
 above:X.s_0.heap.objs.size≤X.env.locals
 inj:∀x y c,X.env.cells.lookup x=some c→X.env.cells.lookup y=some c→x=y
 has:∀x,(X.env.kindOf x=some .cell∨X.env.kindOf x=some .free)→∃c,X.env.cells.lookup x=some c
 cab:∀x c,X.fn x=true→X.env.cells.lookup x=some c→X.s_0.heap.objs.size≤c
 hd:X.calm=true→X.A.handled=none
 frames:X.A.frames=some X.stack
 stk:X.stack=X.outer∨(X.stack=X.env::X.outer∧X.env.frame=some X.env.locals)
 exf:∀b∈X.ex,b≠X.env.locals∧∀x c,X.env.cells.lookup x=some c→c≠b
 bs:∀b o,X.base.get? b=some o→X.s_0.heap.get? b=some o∧X.H_0 b=none
 bsz:X.base.objs.size≤X.s_0.heap.objs.size
 XS:∀b o,X.base.get? b=some o→b∉X.ex
 Vr:∀b∈X.ex,b∉X.fs
 DX:X.s_0.heap.FunFrames X.base X.outer
 frf:∀b∈X.fs,X.H_0 b=none
structure Inv(X:Cx)(pins:List (Addr×Obj))(σ:List (Option V))(H:Hp)(s:Shared):Prop where
 ok:X.Ok
 os:s.os=X.s_0.os
 bare:AllBare s.gens
 base:Un X.fs X.ex X.H_0 H X.s_0.heap s.heap
 loc:∃m,s.heap.Ns X.env.locals m∧∀(i:Nat) (x:Str) (v:V),X.N[i]?=some x→σ[i]?=some (some v)→Vis X.env.scope x→∃u,RelV v u∧Look X.env s.heap m x u
 cell:∀x c,X.env.cells.lookup x=some c→∃v,s.heap.IsCell c v
 free:H X.env.locals=none
 t_:∀x c,X.env.cells.lookup x=some c→H c=none
 pin:∀p∈X.pn++pins,s.heap.get? p.1=some p.2∧H p.1=none∧p.1≠X.env.locals∧p.1∉X.fs∧∀v,p.2.data≠.cell v
 hok:HOk X.prog X.w H s.heap
 len:σ.length=X.N.length
section
variable {X:Cx}{pins:List (Addr×Obj)}{σ:List (Option V)}{H H':Hp}{s:Shared}{h':Heap}
theorem Cx.Ok.aee(ok:X.Ok){b:Addr}{o:Obj}(e:X.base.get? b=some o):b∉X.fs:=fun hb=>by
 have:=(ok.DX.mem hb).1
 rw[e]at this;cases this
theorem Inv.bs(I:Inv X pins σ H s):∀b o,X.base.get? b=some o→s.heap.get? b=some o∧H b=none:=fun b o e =>
 ⟨I.base.keep b o (I.ok.bs b o e).1 (I.ok.bs b o e).2 (I.ok.aee e) (I.ok.XS b o e),I.base.free b o (I.ok.bs b o e).1 (I.ok.bs b o e).2 (I.ok.XS b o e)⟩
theorem Inv.bk(I:Inv X pins σ H s):∀b o,X.base.get? b=some o→s.heap.get? b=some o:=fun b o e=>(I.bs b o e).1
theorem Inv.mod(I:Inv X pins σ H s):Mod X.K X.mg X.base:=I.ok.mod
theorem Inv.kIn(I:Inv X pins σ H s):X.K.In s.heap:=I.ok.mod.kin.keeps I.bk
theorem Inv.nolimit(I:Inv X pins σ H s):s.heap.NoLimit:=I.ok.mod.nolimit.keeps I.bk
theorem Inv.fr(I:Inv X pins σ H s):∃m,Fr X.base X.env.locals s.heap m :=
 let ⟨m,hn,_⟩:=I.loc
 ⟨m,hn,I.bk,Nat.le_trans I.ok.bsz I.ok.above⟩
theorem Inv.lt(I:Inv X pins σ H s):X.env.locals<s.heap.objs.size:=let ⟨_,hn,_⟩:=I.loc;hn.lt
theorem Inv.sz(I:Inv X pins σ H s):X.s_0.heap.objs.size≤s.heap.objs.size:=Nat.le_trans I.ok.above (Nat.le_of_lt I.lt)
theorem Inv.aen(I:Inv X pins σ H s){a:Addr}(h:s.heap.objs.size≤a):a∉X.fs:=fun hb=>by
 obtain⟨_,o,ho,_⟩:=I.ok.DX.mem hb
 exact absurd (Nat.lt_of_lt_of_le (Heap.lt_size ho) (Nat.le_trans I.sz h)) (Nat.lt_irrefl _)
theorem Inv.cne(I:Inv X pins σ H s):∀x c,X.env.cells.lookup x=some c→c≠X.env.locals:=fun x c e z=>by
 obtain⟨v,o,ho,hd⟩:=I.cell x c e
 obtain⟨m,⟨o',es,ep,ho',hd',_⟩,_⟩:=I.loc
 rw[z,ho']at ho;cases ho;rw[hd']at hd;cases hd
theorem Inv.DX(I:Inv X pins σ H s):s.heap.FunFrames X.base X.outer:=by
 have all:∀(l:List Env),(∀b∈frs l,b∈X.fs)→X.s_0.heap.FunFrames X.base l→s.heap.FunFrames X.base l:=by
  intro l
  induction l with
  |nil=>intro _ _;trivial
  |cons env r ih =>
   intro hs hl
   obtain⟨hk,⟨L,o,hf,hn,ho,hd⟩,hr⟩:=hl
   have hL:L∈X.fs:=hs L (by unfold frs;rw[List.filterMap_cons,hf];exact List.mem_cons_self)
   obtain⟨sl,e⟩:=I.base.slot L o ho (I.ok.frf L hL) hL fun z=>I.ok.Vr L z hL
   exact⟨hk,⟨L,_,hf,hn,e,hd⟩,ih (fun b hb=>hs b (by unfold frs;rw[List.filterMap_cons,hf];exact List.mem_cons_of_mem _ hb)) hr⟩
 exact all X.outer (fun _ hb=>hb) I.ok.DX
theorem Inv.stack(I:Inv X pins σ H s):s.heap.FunFrames X.base X.stack:=by
 rcases I.ok.stk with e|⟨e,hf⟩
 ·rw[e];exact I.DX
 ·rw[e]
  obtain⟨m,hn,_⟩:=I.loc
  refine .cons (by rw[I.ok.kind];decide) hf hn ?_ I.DX
  exact Heap.get?_none_of_le (Nat.le_trans I.ok.bsz I.ok.above)
theorem Inv.Vs(I:Inv X pins σ H s):∀b∈frs X.stack,b∈X.env.locals::X.fs:=fun b hb=>by
 rcases I.ok.stk with e|⟨e,hf⟩
 ·rw[e]at hb;exact List.mem_cons_of_mem _ hb
 ·rw[e]at hb
  unfold frs at hb
  rw[List.filterMap_cons,hf]at hb
  exact hb
theorem Inv.Ph(I:Inv X pins σ H s):∀b∈frs X.stack,H b=none:=fun b hb=>by
 rcases List.mem_cons.mp (I.Vs b hb)with e|hb
 ·rw[e];exact I.free
 ·obtain⟨_,o,ho,_⟩:=I.ok.DX.mem hb
  exact I.base.free b o ho (I.ok.frf b hb) fun z=>I.ok.Vr b z hb
theorem Inv.step{g':Array GenState}{t':Nat}{d':Drawn}{ch:List Addr}(I:Inv X pins σ H s)
  (hch:∀b∈ch,(b∈X.ex∨X.s_0.heap.objs.size≤b)∧b≠X.env.locals∧(∀x c,X.env.cells.lookup x=some c→c≠b)∧∀p∈X.pn++pins,p.1≠b)
  (keep:∀b o,b≠X.env.locals→b∉X.fs→b∉ch→s.heap.get? b=some o→H b=none→h'.get? b=some o)
  (slot:∀b o,b≠X.env.locals→b∈X.fs→b∉ch→s.heap.get? b=some o→H b=none→∃sl,h'.get? b=some {o with slots:=sl}) (free:∀b o,b∉ch→s.heap.get? b=some o→H b=none→H' b=none)
  (there:∀b o,b∉ch→s.heap.get? b=some o→∃o',h'.get? b=some o')
  (tups:∀b xs,H b=some (.tup xs)→H' b=some (.tup xs)) (Le:∀b o u,H b=some (.frz o u)→H' b=some (.frz o u)) (J0:∀b ps,H b=some (.tbl ps)→∃more,H' b=some (.tbl (ps++more)))
  (ns:∀m,s.heap.Ns X.env.locals m→h'.Ns X.env.locals m) (hok:HOk X.prog X.w H' h') (hg:AllBare g') :
  Inv X pins σ H' {s with heap:=h',gens:=g',drawn:=d',toks:=t'}:=by
 have neL:∀b o,X.s_0.heap.get? b=some o→b≠X.env.locals:=fun b o e=>Nat.ne_of_lt (Nat.lt_of_lt_of_le (Heap.lt_size e) I.ok.above)
 have neC:∀b o,X.s_0.heap.get? b=some o→b∉X.ex→b∉ch:=fun b o e hx hb=>by
  rcases(hch b hb).1 with z|z
  ·exact hx z
  ·exact absurd (Nat.lt_of_lt_of_le (Heap.lt_size e) z) (Nat.lt_irrefl _)
 have cellK:∀x c,X.env.cells.lookup x=some c→∀v,s.heap.IsCell c v→h'.IsCell c v:=fun x c e v ⟨o,ho,hd⟩=>by
  have nch:c∉ch:=fun z=>(hch c z).2.2.1 x c e rfl
  by_cases hc:c∈X.fs
  ·obtain⟨sl,q⟩:=slot c o (I.cne x c e) hc nch ho (I.t_ x c e)
   exact⟨_,q,hd⟩
  ·exact⟨o,keep c o (I.cne x c e) hc nch ho (I.t_ x c e),hd⟩
 refine⟨I.ok,I.os,hg,⟨fun b o e n hb hx=>?_,fun b o e n hb hx=>?_,fun b o e n hx=>?_,fun b o e hx=>?_,fun b xs e=>tups b xs (I.base.tups b xs e),fun b o xs e=>Le b o xs (I.base.Le b o xs e),fun b ps e=>?_⟩,?_,fun x c e=>?_,?_,fun x c e=>?_,fun p hp=>?_,hok,I.len⟩
 ·exact keep b o (neL b o e) hb (neC b o e hx) (I.base.keep b o e n hb hx) (I.base.free b o e n hx)
 ·obtain⟨sl,e1⟩:=I.base.slot b o e n hb hx
  obtain⟨sl',e2⟩:=slot b _ (neL b o e) hb (neC b o e hx) e1 (I.base.free b o e n hx)
  exact⟨sl',e2⟩
 ·obtain⟨o',e1⟩:=I.base.there b o e hx
  exact free b o' (neC b o e hx) e1 (I.base.free b o e n hx)
 ·obtain⟨o',e1⟩:=I.base.there b o e hx
  exact there b o' (neC b o e hx) e1
 ·obtain⟨m1,e1⟩:=I.base.J0 b ps e
  obtain⟨m2,e2⟩:=J0 b _ e1
  exact⟨m1++m2,by rw[e2,Array.append_assoc]⟩
 ·obtain⟨m,hn,hl⟩:=I.loc
  refine⟨m,ns m hn,fun i x v e1 e2 e3=>?_⟩
  obtain⟨u,r,l⟩:=hl i x v e1 e2 e3
  refine⟨u,r,?_⟩
  rcases l with l|⟨k,c,e,z⟩
  ·exact .inl l
  ·exact .inr ⟨k,c,e,cellK x c e _ z⟩
 ·obtain⟨v,z⟩:=I.cell x c e
  exact⟨v,cellK x c e v z⟩
 ·obtain⟨m,⟨o,_,_,ho,_⟩,_⟩:=I.loc
  exact free _ o (fun z=>(hch _ z).2.1 rfl) ho I.free
 ·obtain⟨v,o,ho,hd⟩:=I.cell x c e
  exact free c o (fun z=>(hch c z).2.2.1 x c e rfl) ho (I.t_ x c e)
 ·obtain⟨e,n,ne,nf,d⟩:=I.pin p hp
  have nch:p.1∉ch:=fun z=>(hch p.1 z).2.2.2 p hp rfl
  exact⟨keep p.1 p.2 ne nf nch e n,free p.1 p.2 nch e n,ne,nf,d⟩
theorem Inv.un{t':Nat}(I:Inv X pins σ H s)(u:Un X.fs [] H H' s.heap h')(hok:HOk X.prog X.w H' h'):Inv X pins σ H' {s with heap:=h',toks:=t'}:=by
 obtain⟨m,⟨o,es,ep,ho,r⟩,_⟩:=id I.loc
 obtain⟨sl,hL⟩:=u.any ho I.free (by simp)
 exact I.step (g':=s.gens) (d':=s.drawn) (ch:=[]) (fun _ z=>nomatch z) (fun b o _ hb _ e n=>u.keep b o e n hb (by simp)) (fun b o _ hb _ e n=>u.slot b o e n hb (by simp)) (fun b o _ e n=>u.free b o e n (by simp)) (fun b o _ e=>u.there b o e (by simp)) u.tups u.Le u.J0 (fun m' hm=>by
  obtain⟨o',es',ep',ho',r'⟩:=hm
  rw[ho]at ho';cases ho'
  exact⟨_,es',ep',hL,r'⟩) hok I.bare
theorem Inv.call{g':Array GenState}{t':Nat}{d':Drawn}{ch:List Addr}(I:Inv X pins σ H s)(u:Un (frs X.stack) ch H H' s.heap h')(hok:HOk X.prog X.w H' h')(hg:AllBare g')
  (hch:∀b∈ch,(b∈X.ex∨X.s_0.heap.objs.size≤b)∧b≠X.env.locals∧(∀x c,X.env.cells.lookup x=some c→c≠b)∧∀p∈X.pn++pins,p.1≠b) :
  Inv X pins σ H' {s with heap:=h',gens:=g',drawn:=d',toks:=t'}:=by
 obtain⟨m,⟨o,es,ep,ho,r⟩,_⟩:=id I.loc
 obtain⟨sl,hL⟩:=u.any ho I.free fun z=>(hch _ z).2.1 rfl
 exact I.step (ch:=ch) hch (fun b o hL hb hc e n=>u.keep b o e n (fun z=>(List.mem_cons.mp (I.Vs b z)).elim hL hb) hc) (fun b o _ _ hc e n=>u.any e n hc) (fun b o hc e n=>u.free b o e n hc) (fun b o hc e=>u.there b o e hc) u.tups u.Le u.J0 (fun m' hm=>by
  obtain⟨o',es',ep',ho',r'⟩:=hm
  rw[ho]at ho';cases ho'
  exact⟨_,es',ep',hL,r'⟩) hok hg
theorem Inv.turned{t':Nat}{it:Addr}(I:Inv X pins σ H s)(k:∀b o,b≠it→s.heap.get? b=some o→h'.get? b=some o)(hn:H it=none)(hL:it≠X.env.locals)
  (h1:it∈X.ex∨X.s_0.heap.objs.size≤it) (h2:∀x c,X.env.cells.lookup x=some c→c≠it) (h3:∀p∈X.pn++pins,p.1≠it):Inv X pins σ H {s with heap:=h',toks:=t'}:=by
 have nit:∀b u,H b=some u→b≠it:=fun b u e z=>by rw[z,hn]at e;cases e
 refine I.step (g':=s.gens) (d':=s.drawn) (ch:=[it]) (fun b hb=>?_) (fun b o _ _ hc e _=>k b o (fun z=>hc (by simp[z])) e) (fun b o _ _ hc e _=>⟨o.slots,k b o (fun z=>hc (by simp[z])) e⟩) (fun _ _ _ _ n=>n)
  (fun b o hc e=>⟨o,k b o (fun z=>hc (by simp[z])) e⟩) (fun _ _ e=>e) (fun _ _ _ e=>e) (fun b ps e=>⟨#[],by rw[e];simp⟩) (fun m hm=>?_) (fun b u e=>?_) I.bare
 ·have e:b=it:=by simpa using hb
  subst e
  exact⟨h1,hL,h2,h3⟩
 ·obtain⟨o,es,ep,ho,r⟩:=hm
  exact⟨o,es,ep,k _ o (Ne.symm hL) ho,r⟩
 ·refine(I.hok b u e).stay (fun c v hc q=>k c v ?_ q) (fun _ q=>q) fun _ _ q=>q
  rcases hc with z|z
  ·rw[z];exact nit b u e
  ·exact nit c _ z
theorem Inv.tok(I:Inv X pins σ H s)(t:Nat):Inv X pins σ H {s with toks:=t}:=I.un (h':=s.heap) (t':=t) Un.refl I.hok
theorem Inv.kept{t':Nat}(I:Inv X pins σ H s)(k:∀b u,s.heap.get? b=some u→h'.get? b=some u):Inv X pins σ H {s with heap:=h',toks:=t'}:=I.un (Un.kept k) (I.hok.kept k)
theorem Inv.laid{a:Addr}{o:HO}{t':Nat}(I:Inv X pins σ H s)(k:∀b u,s.heap.get? b=some u→h'.get? b=some u)(hp:s.heap.objs.size≤a)(new:iz X.prog X.w (upd H a o) h' a o) :
  Inv X pins σ (upd H a o) {s with heap:=h',toks:=t'}:=I.un (Un.laid k hp (I.hok.fresh hp)) (I.hok.laid k hp new)
theorem Inv.write{x e:Addr}{o:HO}{t':Nat}(I:Inv X pins σ H s)(mu:Mut (H x))(he:e=x∨H e=some (.own x))(k:∀b u,b≠e→s.heap.get? b=some u→h'.get? b=some u)(heo:∃u,h'.get? e=some u)
  (new:iz X.prog X.w (upd H x o) h' x o):Inv X pins σ (upd H x o) {s with heap:=h',toks:=t'}:=I.un (Un.write mu he k heo) (I.hok.write mu he k heo new)
theorem Inv.weak{σ':List (Option V)}(I:Inv X pins σ H s)(hl:σ'.length=σ.length)(w:∀(i:Nat) v,σ'[i]?=some (some v)→σ[i]?=some (some v)):Inv X pins σ' H s :=
 ⟨I.ok,I.os,I.bare,I.base,let ⟨m,hn,hl'⟩:=I.loc;⟨m,hn,fun i x v e1 e2 e3=>hl' i x v e1 (w i v e2) e3⟩,I.cell,I.free,I.t_,I.pin,I.hok,hl.trans I.len⟩
theorem Inv.Wl{pins':List (Addr×Obj)}(I:Inv X pins σ H s)(h:∀p∈pins',s.heap.get? p.1=some p.2∧H p.1=none∧p.1≠X.env.locals∧p.1∉X.fs∧∀v,p.2.data≠.cell v):Inv X pins' σ H s :=
 ⟨I.ok,I.os,I.bare,I.base,I.loc,I.cell,I.free,I.t_,fun p hp=>(List.mem_append.mp hp).elim (fun z=>I.pin p (List.mem_append_left _ z)) (h p),I.hok,I.len⟩
theorem Ek{N:List Str}(hN:N.Nodup){i j:Nat}{x:Str}(a:N[i]?=some x)(b:N[j]?=some x):i=j:=by
 obtain⟨h1,e1⟩:=List.getElem?_eq_some_iff.mp a
 obtain⟨h2,e2⟩:=List.getElem?_eq_some_iff.mp b
 exact(List.getElem_inj hN).mp (e1.trans e2.symm)
theorem N5{M:Model}{A:Around}{E:Value→Shared→Prop}{i:Nat}{x:Str}{v:V}{u:Value}{Q:Unit→Shared→Prop}(I:Inv X pins σ H s)(hN:X.N.Nodup)(hi:X.N[i]?=some x)(hx:Loc X.env.scope x)(r:RelV v u)
  (h:∀s',Inv X pins (σ.set i (some v)) H s'→(∃a,Heap.SameBut a s.heap s'.heap∧(a=X.env.locals∨X.env.cells.lookup x=some a))→Q () s') (hf:X.fn x=true∨X.env.scope.names.lookup x=some .local:=by first | exact .inl rfl | exact .inr rfl | assumption):wpAny M A (storeName X.env x u) Q E s:=by
 obtain⟨m,hn,hl⟩:=id I.loc
 have hcls:(X.env.scope.kind==.class||(X.env.scope.kind==.module&&X.env.locals != X.env.globals))=false:=by rw[I.ok.kind];rfl
 have hiσ:i<σ.length:=by rw[I.len];exact(List.getElem?_eq_some_iff.mp hi).1
 have cne:=I.cne
 have tracked:∀{a:Addr} {h':Heap},(∃o,s.heap.get? a=some o∧H a=none)→Heap.SameBut a s.heap h'→HOk X.prog X.w H h':=fun{a h'} ha hs b ob e=>by
  obtain⟨_,_,hfree⟩:=ha
  refine(I.hok b ob e).stay (fun c w' hc q=>(hs.2 c ?_).trans q) (fun _ q=>q) fun _ _ q=>q
  rintro rfl
  rcases hc with rfl|hc
  ·rw[hfree]at e;cases e
  ·rw[hfree]at hc;cases hc
 rcases hx with hk|hk
 ·refine wpAny_storeName_local hk hn (fun h' hn' hs=>?_) hcls
  obtain⟨oL,_,_,hoL,_⟩:=id hn
  refine h _ ⟨I.ok,I.os,I.bare,⟨fun b o e n hb hx=>?_,fun b o e n hb hx=>?_,I.base.free,fun b o e hx=>?_,I.base.tups,I.base.Le,I.base.J0⟩,⟨_,hn',fun j y v' e1 e2 e3=>?_⟩,fun y c e=>?_,I.free,I.t_,fun p hp=>?_,tracked ⟨oL,hoL,I.free⟩ hs,by simpa using I.len⟩ ⟨_,hs,.inl rfl⟩
  ·exact(hs.2 b (Nat.ne_of_lt (Nat.lt_of_lt_of_le (Heap.lt_size e) I.ok.above))).trans (I.base.keep b o e n hb hx)
  ·obtain⟨sl,e1⟩:=I.base.slot b o e n hb hx
   exact⟨sl,(hs.2 b (Nat.ne_of_lt (Nat.lt_of_lt_of_le (Heap.lt_size e) I.ok.above))).trans e1⟩
  ·obtain⟨o',e1⟩:=I.base.there b o e hx
   exact⟨o',(hs.2 b (Nat.ne_of_lt (Nat.lt_of_lt_of_le (Heap.lt_size e) I.ok.above))).trans e1⟩
  ·by_cases hj:j=i
   ·subst hj
    rw[hi]at e1;cases e1
    rw[List.getElem?_set_self hiσ]at e2
    cases e2
    exact⟨u,r,.inl ⟨hk,by simp⟩⟩
   ·rw[List.getElem?_set_ne (Ne.symm hj)]at e2
    obtain⟨u',r',q⟩:=hl j y v' e1 e2 e3
    refine⟨u',r',?_⟩
    rcases q with ⟨k,e⟩|⟨k,c,e,z⟩
    ·refine .inl ⟨k,?_⟩
     have:y≠x:=fun e=>hj (Ek hN e1 (e▸hi))
     simp[this,e]
    ·exact .inr ⟨k,c,e,z.sameBut hs (cne y c e)⟩
  ·obtain⟨w',z⟩:=I.cell y c e
   exact⟨w',z.sameBut hs (cne y c e)⟩
  ·obtain⟨e,n,ne,nf,d⟩:=I.pin p hp
   exact⟨(hs.2 p.1 ne).trans e,n,ne,nf,d⟩
 ·have hfn:X.fn x=true:=by
   rcases hf with z|z
   ·exact z
   ·rw[z]at hk;cases hk
  obtain⟨c,hc⟩:=I.ok.has x (.inl hk)
  obtain⟨w',z⟩:=I.cell x c hc
  refine wpAny_storeName_cell I.ok.kind hk hc z (fun h' hc' hs=>?_)
  obtain⟨oc,hoc,hocd⟩:=id z
  refine h {s with heap:=h'} ⟨I.ok,I.os,I.bare,⟨fun b o e n hb hx=>?_,fun b o e n hb hx=>?_,I.base.free,fun b o e hx=>?_,I.base.tups,I.base.Le,I.base.J0⟩,⟨m,hn.sameBut hs (Ne.symm (cne x c hc)),fun j y v' e1 e2 e3=>?_⟩,fun y c' e=>?_,I.free,I.t_,fun p hp=>?_,tracked ⟨oc,hoc,I.t_ x c hc⟩ hs,by simpa using I.len⟩ ⟨c,hs,.inr hc⟩
  ·exact(hs.2 b (Nat.ne_of_lt (Nat.lt_of_lt_of_le (Heap.lt_size e) (I.ok.cab x c hfn hc)))).trans (I.base.keep b o e n hb hx)
  ·obtain⟨sl,e1⟩:=I.base.slot b o e n hb hx
   exact⟨sl,(hs.2 b (Nat.ne_of_lt (Nat.lt_of_lt_of_le (Heap.lt_size e) (I.ok.cab x c hfn hc)))).trans e1⟩
  ·obtain⟨o',e1⟩:=I.base.there b o e hx
   exact⟨o',(hs.2 b (Nat.ne_of_lt (Nat.lt_of_lt_of_le (Heap.lt_size e) (I.ok.cab x c hfn hc)))).trans e1⟩
  ·by_cases hj:j=i
   ·subst hj
    rw[hi]at e1;cases e1
    rw[List.getElem?_set_self hiσ]at e2
    cases e2
    exact⟨u,r,.inr ⟨.inl hk,c,hc,hc'⟩⟩
   ·rw[List.getElem?_set_ne (Ne.symm hj)]at e2
    obtain⟨u',r',q⟩:=hl j y v' e1 e2 e3
    refine⟨u',r',?_⟩
    rcases q with q|⟨k,c',e,z'⟩
    ·exact .inl q
    ·refine .inr ⟨k,c',e,z'.sameBut hs ?_⟩
     rintro rfl
     exact hj (Ek hN e1 (I.ok.inj _ _ _ e hc▸hi))
  ·by_cases hcc:c'=c
   ·subst hcc;exact⟨_,hc'⟩
   ·obtain⟨w2,z2⟩:=I.cell y c' e
    exact⟨w2,z2.sameBut hs hcc⟩
  ·obtain⟨e,n,ne,nf,d⟩:=I.pin p hp
   refine⟨(hs.2 p.1 ?_).trans e,n,ne,nf,d⟩
   intro q
   rw[q,hoc]at e
   have q':oc=p.2:=Option.some.inj e
   exact d w' (by rw[← q'];exact hocd)
theorem Q3{M:Model}{A:Around}{E:Value→Shared→Prop}{i:Nat}{x:Str}{v:V}{u:Value}{Q:Unit→Shared→Prop}(I:Inv X pins σ H s)(hN:X.N.Nodup)(hi:X.N[i]?=some x)(hx:Loc X.env.scope x)(r:RelV v u)
  (h:∀s',Inv X pins (σ.set i (some v)) H s'→Q () s') (hf:X.fn x=true∨X.env.scope.names.lookup x=some .local:=by first | exact .inl rfl | exact .inr rfl | assumption):wpAny M A (storeName X.env x u) Q E s :=
 N5 I hN hi hx r (fun s' I' _=>h s' I') hf
theorem Inv.call'{s':Shared}{ch:List Addr}(I:Inv X pins σ H s)(ho:s'.os=s.os)(u:Un (frs X.stack) ch H H' s.heap s'.heap)(hok:HOk X.prog X.w H' s'.heap)(hg:AllBare s'.gens)
  (hch:∀b∈ch,(b∈X.ex∨X.s_0.heap.objs.size≤b)∧b≠X.env.locals∧(∀x c,X.env.cells.lookup x=some c→c≠b)∧∀p∈X.pn++pins,p.1≠b):Inv X pins σ H' s':=by
 obtain⟨h',g',d',t',o'⟩:=s'
 have e:o'=s.os:=ho
 subst e
 exact I.call (g':=g') (t':=t') (d':=d') u hok hg hch
end
abbrev XK:=Value→Option Addr→Hp→Prop
abbrev St:=List (Option V)
abbrev VK:=V→Hp→Prop
abbrev TE:=St→Hp→VK→Prop
abbrev TT:=St→Hp→(Bool→Hp→Prop)→Prop
abbrev TA:=St→Hp→(List V→Hp→Prop)→Prop
structure Ends where
 nx:St→Hp→Prop
 rt:VK
 bk:St→Hp→Prop:=fun _ _=>False
 ct:St→Hp→Prop:=fun _ _=>False
abbrev TS:=Ends→St→Hp→Prop
def EP(X:Cx)(pins:List (Addr×Obj))(σ:St)(Q:VK)(u:Value)(s':Shared):Prop:=∃v H',Inv X pins σ H' s'∧RelV v u∧Q v H'
def TP(X:Cx)(pins:List (Addr×Obj))(σ:St)(Q:Bool→Hp→Prop)(b:Bool)(s':Shared):Prop:=∃H',Inv X pins σ H' s'∧Q b H'
def AP(X:Cx)(pins:List (Addr×Obj))(σ:St)(Q:List V→Hp→Prop)(us:List Value)(s':Shared):Prop:=∃vs H',Inv X pins σ H' s'∧Vals vs us∧Q vs H'
def SP(X:Cx)(pins:List (Addr×Obj))(D:Ends)(f:Flow)(s':Shared):Prop :=
 match f with
 |.next=>∃σ' H',Inv X pins σ' H' s'∧D.nx σ' H'
 |.brk=>∃σ' H',Inv X pins σ' H' s'∧D.bk σ' H'
 |.cont=>∃σ' H',Inv X pins σ' H' s'∧D.ct σ' H'
 |.ret u=>∃v σ' H',Inv X pins σ' H' s'∧RelV v u∧D.rt v H'
def PE(X:Cx)(e:Expr)(t:TE):Prop :=
 ∀(pins:List (Addr×Obj)) (s:Shared) (σ:St) (H:Hp) (Q:VK),Inv X pins σ H s→t σ H Q→wpAny (model X.prog X.w) X.A (eval e X.env) (EP X pins σ Q) X.xe s
def PT(X:Cx)(e:Expr)(t:TT):Prop :=
 ∀(pins:List (Addr×Obj)) (s:Shared) (σ:St) (H:Hp) (Q:Bool→Hp→Prop),Inv X pins σ H s→t σ H Q→wpAny (model X.prog X.w) X.A (isTrue e X.env (eval e X.env)) (TP X pins σ Q) X.xe s
def PW(X:Cx)(e:Expr)(t:TT):Prop :=
 ∀(whole:Sem Value) (pins:List (Addr×Obj)) (s:Shared) (σ:St) (H:Hp) (Q:Bool→Hp→Prop),Inv X pins σ H s→t σ H Q→wpAny (model X.prog X.w) X.A (isTrue e X.env whole) (TP X pins σ Q) X.xe s
theorem PW.pt{X:Cx}{e:Expr}{t:TT}(h:PW X e t):PT X e t:=h _
def PA(X:Cx)(es:List Expr)(t:TA):Prop :=
 ∀(pos:Pos) (pins:List (Addr×Obj)) (s:Shared) (σ:St) (H:Hp) (Q:List V→Hp→Prop),Inv X pins σ H s→t σ H Q→wpAny (model X.prog X.w) X.A (spliced (backTo pos (starEach es X.env))) (AP X pins σ Q) X.xe s
def PS(X:Cx)(st:Stmt)(t:TS):Prop :=
 ∀(pins:List (Addr×Obj)) (s:Shared) (σ:St) (H:Hp) (D:Ends),Inv X pins σ H s→t D σ H→wpAny (model X.prog X.w) X.A (exec st X.env) (SP X pins D) X.xe s
def PSs(X:Cx)(st:List Stmt)(t:TS):Prop :=
 ∀(pins:List (Addr×Obj)) (s:Shared) (σ:St) (H:Hp) (D:Ends),Inv X pins σ H s→t D σ H→wpAny (model X.prog X.w) X.A (execs st X.env) (SP X pins D) X.xe s
theorem thn{α:Type}{t:Sem α}{Q Q':α→Shared→Prop}{M:Model}{A:Around}{E:Value→Shared→Prop}{s:Shared}(h:wpAny M A t Q E s)(hQ:∀a s,Q a s→Q' a s):wpAny M A t Q' E s:=wpAny_mono h hQ fun _ _ x=>x
end L2
namespace L2
open PySem PySem.Spec PyProof.Rows
section
variable {X:Cx}
theorem bin{a b:Expr}{ta tb:TE}(ha:PE X a ta)(hb:PE X b tb){pins:List (Addr×Obj)}{s:Shared}{σ:St}{H:Hp}{R:V→V→Hp→Prop}(I:Inv X pins σ H s)(h:ta σ H fun x H1=>tb σ H1 fun y H2=>R x y H2)
  {α:Type} {Q:α→Shared→Prop} {f:Value→Value→Sem α}
  (hf:∀v u s2 x y H2,Inv X pins σ H2 s2→RelV x v→RelV y u→R x y H2→wpAny (model X.prog X.w) X.A (f v u) Q X.xe s2) :
  wpAny (model X.prog X.w) X.A (eval a X.env) (fun v s₁=>wpAny (model X.prog X.w) X.A (eval b X.env) (fun u s₂=>wpAny (model X.prog X.w) X.A (f v u) Q X.xe s₂) X.xe s₁) X.xe s:=by
 refine thn (ha pins s σ H _ I h) fun v s1 ⟨x,H1,I1,r1,q1⟩=>?_
 refine thn (hb pins s1 σ H1 _ I1 q1) fun u s2 ⟨y,H2,I2,r2,q2⟩=>?_
 exact hf v u s2 x y H2 I2 r1 r2 q2
def b8(i:Nat):TE:=fun σ H Q=>∃v,σ[i]?=some (some v)∧Q v H
def tC(v:V):TE:=fun _ H Q=>Q v H
theorem adn{i:Nat}{x:Str}{pos:Pos}(hN:X.N[i]?=some x)(hv:Vis X.env.scope x)(hd:(x==("__debug__" : Str))=false:=by decide)(hcd:(x==("__classdict__" : Str))=false:=by decide):PE X (.Name x pos) (b8 i):=by
 intro pins s σ H Q I h
 obtain⟨v,e,h⟩:=h
 obtain⟨m,hn,hl⟩:=I.loc
 obtain⟨u,r,l⟩:=hl i x v hN e hv
 have fin:EP X pins σ Q u s:=⟨v,H,I,r,h⟩
 rcases l with ⟨hk,hm⟩|⟨hk,c,hc,hcell⟩
 ·exact wpAny_Name (wpAny_loadName_local I.ok.kind hk hn hm fin) hd
 ·rcases hk with hk | hk
  ·exact wpAny_Name (wpAny_loadName_cell I.ok.kind hk hc hcell fin) hd
  ·exact wpAny_Name (wpAny_loadName_free I.ok.kind hk hc hcell fin hcd) hd
theorem aH{i j pos}:PE X (.Constant (.int i) j pos) (tC (.int i)):=fun _ _ _ H _ I h=>wpAny_Constant_int ⟨.int i,H,I.tok _,⟨_,rfl⟩,h⟩
theorem kI{b j pos}:PE X (.Constant (.bool b) j pos) (tC (.bl b)):=fun _ _ _ H _ I h=>Constant_bool ⟨.bl b,H,I,rfl,h⟩
theorem Vg{j pos}:PE X (.Constant .none j pos) (tC .non):=fun _ _ _ H _ I h=>Constant_none ⟨.non,H,I,rfl,h⟩
def Gl(X:Cx)(x:Str):Prop:=X.env.kindOf x=some .globalImplicit
theorem Im{E:Value→Shared→Prop}{pins:List (Addr×Obj)}{s:Shared}{σ:St}{H:Hp}{x:Str}{u:Value}{pos:Pos}{Q:Value→Shared→Prop}(I:Inv X pins σ H s)(hg:Gl X x)(hm:X.mg x=some u)(h:Q u s)
  (hd:(x==("__debug__" : Str))=false:=by decide):wpAny (model X.prog X.w) X.A (eval (.Name x pos) X.env) Q E s :=
 Calls.Name_function_global I.ok.kind hg (Calls.loadGlobal_global (by rw[I.ok.glob];exact I.mod.glob.keeps I.bk) hm h) hd
theorem CK{E:Value→Shared→Prop}{pins:List (Addr×Obj)}{s:Shared}{σ:St}{H:Hp}{x:Str}{u:Value}{pos:Pos}{Q:Value→Shared→Prop}(I:Inv X pins σ H s)(hg:Gl X x)(hm:X.mg x=none)(hv:bootBuiltins x=some u)(h:Q u s)
  (hn:x≠"__name__":=by decide) (hd:(x==("__debug__" : Str))=false:=by decide):wpAny (model X.prog X.w) X.A (eval (.Name x pos) X.env) Q E s:=by
 obtain⟨mb,h1,h2⟩:=I.mod.blt
 exact Calls.Name_function_global I.ok.kind hg (Calls.loadGlobal_builtin (by rw[I.ok.glob];exact I.mod.glob.keeps I.bk) hm (by rw[I.ok.blt];exact h1.keeps I.bk) ((h2 x hn).trans hv) h) hd
theorem WW{x:Str}{v:V}{u:Value}{pos:Pos}(hg:Gl X x)(hm:X.mg x=some u)(r:RelV v u)(hd:(x==("__debug__" : Str))=false:=by decide):PE X (.Name x pos) (tC v) :=
 fun _ _ _ H _ I h=>Im I hg hm ⟨v,H,I,r,h⟩ hd
variable {a b:Expr}{ta tb:TE}{pos:Pos}
def PC(X:Cx)(op:CmpOp)(a b:Expr)(t:TE):Prop :=
 ∀(pins:List (Addr×Obj)) (s:Shared) (σ:St) (H:Hp) (Q:VK),Inv X pins σ H s→t σ H Q →
  wpAny (model X.prog X.w) X.A (eval a X.env) (fun v s₁=>wpAny (model X.prog X.w) X.A (eval b X.env) (fun u s₂=>wpAny (model X.prog X.w) X.A (compareOp op v u) (EP X pins σ Q) X.xe s₂) X.xe s₁) X.xe s
theorem Zf(b:Expr){op:CmpOp}(h:op≠.In)(h2:op≠.NotIn):behindInMarks op b=false:=by
 have e1:(op==CmpOp.In)=false:=by cases op<;>first | rfl | exact absurd rfl h
 have e2:(op==CmpOp.NotIn)=false:=by cases op<;>first | rfl | exact absurd rfl h2
 cases b<;>simp[behindInMarks,e1,e2]
def tB(t:TE):TT:=fun σ H Q=>t σ H fun x H1=>∃c,x=.bl c∧Q c H1
theorem aap{op:CmpOp}{t:TE}(h:PC X op a b t)(h1:behindInMarks op b=false:=by first | exact Zf _ (by decide) (by decide) | rfl):PT X (.Compare a [op] [b] pos) (tB t):=by
 intro pins s σ H Q I hw
 refine wpAny_isTrue_Compare1 (thn (h pins s σ H _ I hw) fun v s1 h1=>thn h1 fun u s2 h2=>thn h2 fun c s3 ⟨x,H1,I1,r1,q1⟩=>?_) h1
 obtain⟨d,rfl,q⟩:=q1
 cases r1
 exact wpAny_truthy_bool ⟨H1,I1,q⟩
theorem bJ{e:Expr}{t:TE}(h:PE X e t)(he:∀whole,isTrue e X.env whole=(do let v ← whole;standAt e.pos;holding [v] (truthy v)):=by intro _;rfl):PT X e (tB t):=by
 intro pins s σ H Q I hw
 refine isTrue_plain (thn (h pins s σ H _ I hw) fun v s1 ⟨x,H1,I1,r1,q1⟩=>?_) (he _)
 obtain⟨d,rfl,q⟩:=q1
 cases r1
 exact wpAny_truthy_bool ⟨H1,I1,q⟩
variable {tA tB':TT}{rest:List Expr}
def ad_(t u:TT):TT:=fun σ H Q=>t σ H fun c H1=>if c=true then u σ H1 Q else Q false H1
def tOr(t u:TT):TT:=fun σ H Q=>t σ H fun c H1=>if c=true then Q true H1 else u σ H1 Q
def acI(t:TT):TT:=fun σ H Q=>t σ H fun c H1=>Q (!c) H1
theorem Fi(ha:PT X a tA):PW X (.BoolOp .And [a] pos) tA:=by
 intro wh pins s σ H Q I h
 refine isTrue_and (thn (ha pins s σ H Q I h) fun c s1 e=>?_)
 cases c with
 |true=>exact isTrue_and_nil e
 |false=>exact e
theorem Gj(ha:PT X a tA):PW X (.BoolOp .Or [a] pos) tA:=by
 intro wh pins s σ H Q I h
 refine isTrue_or (thn (ha pins s σ H Q I h) fun c s1 e=>?_)
 cases c with
 |false=>exact isTrue_or_nil e
 |true=>exact e
theorem Jz(ha:PT X a tA)(hb:PW X (.BoolOp .And (b::rest) pos) tB'):PW X (.BoolOp .And (a::b::rest) pos) (ad_ tA tB'):=by
 intro wh pins s σ H Q I h
 refine isTrue_and (thn (ha pins s σ H _ I h) fun c s1 ⟨H1,I1,q1⟩=>?_)
 cases c with
 |true=>exact hb wh pins s1 σ H1 Q I1 q1
 |false=>exact⟨H1,I1,q1⟩
theorem Hm(ha:PT X a tA)(hb:PW X (.BoolOp .Or (b::rest) pos) tB'):PW X (.BoolOp .Or (a::b::rest) pos) (tOr tA tB'):=by
 intro wh pins s σ H Q I h
 refine isTrue_or (thn (ha pins s σ H _ I h) fun c s1 ⟨H1,I1,q1⟩=>?_)
 cases c with
 |true=>exact⟨H1,I1,q1⟩
 |false=>exact hb wh pins s1 σ H1 Q I1 q1
theorem cD(ha:PT X a tA):PT X (.UnaryOp .Not a pos) (acI tA):=by
 intro pins s σ H Q I h
 exact isTrue_not (ha pins s σ H (fun c H1=>Q (!c) H1) I h)
def acp(ta tb:TE):TE:=fun σ H Q=>ta σ H fun x H1=>∃c,x=.bl c∧if c=true then tb σ H1 Q else Q (.bl false) H1
def ad2(ta tb:TE):TE:=fun σ H Q=>ta σ H fun x H1=>∃c,x=.bl c∧if c=true then Q (.bl true) H1 else tb σ H1 Q
def acu(ta:TE):TE:=fun σ H Q=>ta σ H fun x H1=>∃c,x=.bl c∧Q (.bl (!c)) H1
theorem wj{op}{t:TE}(h:PE X a t):PE X (.BoolOp op [a] pos) t:=fun pins s σ H Q I hw=>BoolOp_one (h pins s σ H Q I hw)
theorem vU(ha:PE X a ta)(hb:PE X (.BoolOp .And (b::rest) pos) tb):PE X (.BoolOp .And (a::b::rest) pos) (acp ta tb):=by
 intro pins s σ H Q I h
 refine BoolOp_and (thn (ha pins s σ H _ I h) fun v s1 ⟨x,H1,I1,r1,q1⟩=>?_)
 obtain⟨c,rfl,q1⟩:=q1
 cases r1
 refine wpAny_truthy_bool ?_
 cases c with
 |true=>exact hb pins s1 σ H1 Q I1 q1
 |false=>exact⟨.bl false,H1,I1,rfl,q1⟩
theorem ab4(ha:PE X a ta)(hb:PE X (.BoolOp .Or (b::rest) pos) tb):PE X (.BoolOp .Or (a::b::rest) pos) (ad2 ta tb):=by
 intro pins s σ H Q I h
 refine BoolOp_or (thn (ha pins s σ H _ I h) fun v s1 ⟨x,H1,I1,r1,q1⟩=>?_)
 obtain⟨c,rfl,q1⟩:=q1
 cases r1
 refine wpAny_truthy_bool ?_
 cases c with
 |false=>exact hb pins s1 σ H1 Q I1 q1
 |true=>exact⟨.bl true,H1,I1,rfl,q1⟩
theorem Zb(ha:PE X a ta):PE X (.UnaryOp .Not a pos) (acu ta):=by
 intro pins s σ H Q I h
 refine UnaryOp_ (thn (ha pins s σ H _ I h) fun v s1 ⟨x,H1,I1,r1,q1⟩=>?_)
 obtain⟨c,rfl,q1⟩:=q1
 cases r1
 exact not_of (wpAny_truthy_bool ⟨.bl (!c),H1,I1,rfl,q1⟩)
def tIf(t:TT)(ta tb:TE):TE:=fun σ H Q=>t σ H fun c H1=>if c=true then ta σ H1 Q else tb σ H1 Q
theorem Rv{c:Expr}(hc:PT X c tA)(ha:PE X a ta)(hb:PE X b tb):PE X (.IfExp c a b pos) (tIf tA ta tb):=by
 intro pins s σ H Q I h
 refine wpAny_IfExp (thn (hc pins s σ H _ I h) fun d s1 ⟨H1,I1,q1⟩=>?_)
 cases d with
 |true=>exact ha pins s1 σ H1 Q I1 q1
 |false=>exact hb pins s1 σ H1 Q I1 q1
end
end L2
namespace L2
open PySem PySem.Spec PyProof.Rows
def SqL(K:PySem.W.Frag)(H:Hp)(a:Addr)(xs:List V):Prop :=
 Rd H a (.lst xs) ∨
  ∃(o:Obj) (its:Array Value) (n:Nat),K.lookup a=some o∧o.cls=.type "list"∧o.dict=none∧o.data=.seq its n∧its.size≤sizeLine∧Vals xs its.toList
def SqT(K:PySem.W.Frag)(H:Hp)(a:Addr)(xs:List V):Prop :=
 Rd H a (.tup xs) ∨
  ∃(o:Obj) (its:Array Value) (n:Nat),K.lookup a=some o∧o.cls=.type "tuple"∧o.data=.seq its n∧its.size≤sizeLine∧Vals xs its.toList
def aeo:Value→Option V
 |.none=>some .non
 |.bool b=>some (.bl b)
 |.int i _=>some (.int i)
 |.str x _=>some (.str x)
 |.bytes b _=>some (.byt b)
 |.float b _=>some (.flt b)
 |.ref a=>some (.ref a)
 |.type n=>some (.ty n)
 |_=>none
theorem RelV.abs{x:V}{u:Value}(r:RelV x u):aeo u=some x:=by
 cases x with
 |non=>cases r;rfl
 |bl _=>cases r;rfl
 |int _=>obtain⟨t,rfl⟩:=r;rfl
 |str _=>obtain⟨t,rfl⟩:=r;rfl
 |byt _=>obtain⟨t,rfl⟩:=r;rfl
 |flt _=>obtain⟨t,rfl⟩:=r;rfl
 |ref _=>cases r;rfl
 |ty _=>cases r;rfl
theorem RelV.inj{x y:V}{u:Value}(r:RelV x u)(q:RelV y u):x=y:=Option.some.inj (r.abs.symm.trans q.abs)
theorem Vals.inj:∀{xs ys:List V} {us:List Value},Vals xs us→Vals ys us→xs=ys
 |_,_,_,.nil,.nil=>rfl
 |_,_,_,.cons r t,.cons r' t'=>by rw[r.inj r',Vals.inj t t']
section
variable {X:Cx}{pins:List (Addr×Obj)}{σ:St}{H:Hp}{s:Shared}{a:Addr}{xs ys:List V}
theorem SqL.of{K:PySem.W.Frag}(h:H a=some (.lst xs)):SqL K H a xs:=.inl (.inl h)
theorem SqT.of{K:PySem.W.Frag}(h:H a=some (.tup xs)):SqT K H a xs:=.inl (.inl h)
theorem Inv.list(I:Inv X pins σ H s)(h:SqL X.K H a xs):∃its:List Value,Vals xs its∧PlainL s.heap a its.toArray∧xs.length≤sizeLine:=by
 rcases h with h|⟨o,its,n,hk,hc,hd,hs,hz,r⟩
 ·obtain⟨z,its,n,r,e⟩:=h.ok I.hok
  exact⟨its,r,⟨_,n,e,rfl,rfl,rfl⟩,z⟩
 ·refine⟨its.toList,r,⟨o,n,I.kIn a o hk,hc,hd,by simpa using hs⟩,?_⟩
  have e:=r.length
  simp only[Array.length_toList]at e
  omega
theorem Inv.tuple(I:Inv X pins σ H s)(h:SqT X.K H a xs):∃its:List Value,Vals xs its∧IsTup s.heap a its.toArray∧xs.length≤sizeLine:=by
 rcases h with h|⟨o,its,n,hk,hc,hs,hz,r⟩
 ·obtain⟨z,its,r,p⟩:=h.ok I.hok
  exact⟨its,r,p,z⟩
 ·refine⟨its.toList,r,⟨o,I.kIn a o hk,hc,n,by simpa using hs⟩,?_⟩
  have e:=r.length
  simp only[Array.length_toList]at e
  omega
theorem Inv.Zz(I:Inv X pins σ H s)(h:SqL X.K H a xs)(h':SqL X.K H a ys):xs=ys:=by
 obtain⟨its,r,⟨o,n,e,_,_,d⟩,_⟩:=I.list h
 obtain⟨its',r',⟨o',n',e',_,_,d'⟩,_⟩:=I.list h'
 rw[e]at e';cases e'
 rw[d]at d'
 injection d' with d1 _
 have:its=its':=by simpa using congrArg Array.toList d1
 subst this
 exact r.inj r'
end
abbrev Cx.wish(X:Cx)(E:Value→Shared→Prop):Cx:={X with xe:=E}
abbrev Cx.nox(X:Cx):Cx:=X.wish fun _ _=>False
theorem Cx.Ok.wish{X:Cx}(ok:X.Ok)(E:Value→Shared→Prop):(X.wish E).Ok :=
 ⟨ok.mod,ok.kind,ok.glob,ok.blt,ok.above,ok.inj,ok.has,ok.cab,ok.hd,ok.frames,ok.stk,ok.exf,ok.bs,ok.bsz,ok.XS,ok.Vr,ok.DX,ok.frf⟩
theorem Cx.Ok.yP{X:Cx}{E:Value→Shared→Prop}(ok:(X.wish E).Ok):X.Ok :=
 ⟨ok.mod,ok.kind,ok.glob,ok.blt,ok.above,ok.inj,ok.has,ok.cab,ok.hd,ok.frames,ok.stk,ok.exf,ok.bs,ok.bsz,ok.XS,ok.Vr,ok.DX,ok.frf⟩
section
variable {X:Cx}{pins:List (Addr×Obj)}{σ:St}{H:Hp}{s:Shared}{E:Value→Shared→Prop}
theorem Inv.wish(I:Inv X pins σ H s)(E:Value→Shared→Prop):Inv (X.wish E) pins σ H s:=⟨I.ok.wish E,I.os,I.bare,I.base,I.loc,I.cell,I.free,I.t_,I.pin,I.hok,I.len⟩
theorem Inv.yP(I:Inv (X.wish E) pins σ H s):Inv X pins σ H s:=⟨I.ok.yP,I.os,I.bare,I.base,I.loc,I.cell,I.free,I.t_,I.pin,I.hok,I.len⟩
theorem SP.yP{D:Ends}{f:Flow}{s':Shared}(h:SP (X.wish E) pins D f s'):SP X pins D f s':=by
 cases f with
 |next=>obtain⟨σ',H',I,q⟩:=h;exact⟨σ',H',I.yP,q⟩
 |brk=>obtain⟨σ',H',I,q⟩:=h;exact⟨σ',H',I.yP,q⟩
 |cont=>obtain⟨σ',H',I,q⟩:=h;exact⟨σ',H',I.yP,q⟩
 |ret u=>obtain⟨v,σ',H',I,r,q⟩:=h;exact⟨v,σ',H',I.yP,r,q⟩
theorem PSs.nox{st:List Stmt}{t:TS}(h:PSs X.nox st t):PSs X st t:=fun pins s σ H D I hw =>
 wpAny_mono (h pins s σ H D (I.wish _) hw) (fun _ _ q=>q.yP) fun _ _ z=>False.elim z
end
section
variable {X:Cx}{st:Stmt}{rest:List Stmt}{t u:TS}{e:Expr}{te:TE}{pos:Pos}
def RC:TS:=fun D σ H=>D.nx σ H
def m6(t u:TS):TS:=fun D σ H=>t {D with nx:=u D} σ H
theorem aL:PSs X [] RC:=fun _ _ σ H _ I h=>wpAny_execs_nil ⟨σ,H,I,h⟩
theorem ak(h1:PS X st t)(h2:PSs X rest u):PSs X (st::rest) (m6 t u):=by
 intro pins s σ H D I h
 refine wpAny_execs_cons (thn (h1 pins s σ H {D with nx:=u D} I h) fun f s1 q=>?_)
 cases f with
 |next =>
  obtain⟨σ',H',I',q⟩:=q
  exact h2 pins s1 σ' H' D I' q
 |ret v=>exact q
 |brk=>exact q
 |cont=>exact q
theorem az(h1:PS X st t):PSs X [st] t:=by
 intro pins s σ H D I h
 refine wpAny_execs_cons (thn (h1 pins s σ H D I h) fun f s1 q=>?_)
 cases f with
 |next=>exact wpAny_execs_nil q
 |ret v=>exact q
 |brk=>exact q
 |cont=>exact q
def adR:TS:=fun D σ H=>D.ct σ H
theorem R4:PS X (.Continue pos) adR:=fun _ _ σ H _ I h=>wpAny_Continue ⟨σ,H,I,h⟩
theorem Inv.quiet{pins:List (Addr×Obj)}{σ:St}{H:Hp}{s:Shared}(I:Inv X pins σ H s):interactive X.env=false:=by simp[interactive,I.ok.kind]
def Od(te:TE):TS:=fun D σ H=>te σ H fun _ H1=>D.nx σ H1
theorem iQ(he:PE X e te)(hs:swapsWith e none pos.line X.env=pure false:=by rfl):PS X (.Expr e pos) (Od te):=by
 intro pins s σ H D I h
 exact wpAny_Expr_any (thn (he pins s σ H _ I h) fun v s1 ⟨x,H1,I1,r1,q1⟩=>⟨σ,H1,I1,q1⟩) I.quiet hs
def JT(te:TE):TS:=fun D σ H=>te σ H D.rt
theorem aC(he:PE X e te):PS X (.Return (some e) pos) (JT te):=by
 intro pins s σ H D I h
 exact wpAny_Return_some (thn (he pins s σ H _ I h) fun v s1 ⟨x,H1,I1,r1,q1⟩=>⟨x,σ,H1,I1,r1,q1⟩)
def Xf(c:TT)(t u:TS):TS:=fun D σ H=>c σ H fun b H1=>if b=true then t D σ H1 else u D σ H1
theorem a_{c:Expr}{a b:List Stmt}{tc:TT}(hc:PT X c tc)(ha:PSs X a t)(hb:PSs X b u):PS X (.If c a b pos) (Xf tc t u):=by
 intro pins s σ H D I h
 refine wpAny_If (thn (hc pins s σ H _ I h) fun d s1 ⟨H1,I1,q1⟩=>?_)
 cases d with
 |true=>exact ha pins s1 σ H1 D I1 q1
 |false=>exact hb pins s1 σ H1 D I1 q1
end
abbrev TG:=V→St→Hp→(St→Hp→Prop)→Prop
abbrev TGs:=List V→St→Hp→(St→Hp→Prop)→Prop
def PG(X:Cx)(target:Expr)(t:TG):Prop :=
 ∀(pins:List (Addr×Obj)) (s:Shared) (σ:St) (H:Hp) (v:V) (u:Value) (Q:St→Hp→Prop),Inv X pins σ H s→RelV v u→t v σ H Q →
  wpAny (model X.prog X.w) X.A (assign target X.env u) (fun _ s'=>∃σ' H',Inv X pins σ' H' s'∧Q σ' H') X.xe s
def PGs(X:Cx)(ts:List Expr)(t:TGs):Prop :=
 ∀(pins:List (Addr×Obj)) (s:Shared) (σ:St) (H:Hp) (vs:List V) (us:List Value) (Q:St→Hp→Prop),Inv X pins σ H s→Vals vs us→t vs σ H Q →
  wpAny (model X.prog X.w) X.A (assignInOrder ((assignEach ts X.env).map (·.2)) us) (fun _ s'=>∃σ' H',Inv X pins σ' H' s'∧Q σ' H') X.xe s
section
variable {X:Cx}{pos:Pos}
def uL(i:Nat):TG:=fun v σ H Q=>Q (σ.set i (some v)) H
theorem bL{i:Nat}{x:Str}(hN:X.N.Nodup)(hi:X.N[i]?=some x)(hx:Loc X.env.scope x)(hf:X.fn x=true∨X.env.scope.names.lookup x=some .local:=by first | exact .inl rfl | exact .inr rfl | assumption):PG X (.Name x pos) (uL i):=by
 intro pins s σ H v u Q I r h
 exact wpAny_assign_Name (Q3 I hN hi hx r (fun s' I'=>⟨_,H,I',h⟩) hf)
def adC:TGs:=fun vs σ H Q=>vs=[]∧Q σ H
def Wt(t:TG)(u:TGs):TGs:=fun vs σ H Q=>∃v r,vs=v::r∧t v σ H fun σ' H'=>u r σ' H' Q
theorem Qc:PGs X [] adC:=by
 intro pins s σ H vs us Q I r h
 obtain⟨e,h⟩:=h
 subst e
 cases r
 exact assignInOrder_nil ⟨σ,H,I,h⟩
theorem pU{e:Expr}{es:List Expr}{t:TG}{u:TGs}(h1:PG X e t)(h2:PGs X es u)
  (hs:(assignEach (e::es) X.env).map (·.2)=assign e X.env::(assignEach es X.env).map (·.2):=by rfl):PGs X (e::es) (Wt t u):=by
 intro pins s σ H vs us Q I r h
 obtain⟨v,vr,e1,h⟩:=h
 subst e1
 cases r with
 |cons r rr =>
  rw[hs]
  refine assignInOrder_cons (thn (h1 pins s σ H _ _ _ I r h) fun _ s1 ⟨σ1,H1,I1,q1⟩=>?_)
  exact h2 pins s1 σ1 H1 _ _ Q I1 rr q1
def adT(K:PySem.W.Frag)(n:Nat)(t:TGs):TG:=fun v σ H Q=>∃a xs,v=.ref a∧SqT K H a xs∧xs.length=n∧t xs σ H Q
theorem Vn{es:List Expr}{k:Nat}{t:TGs}{n:Nat}(hc:X.calm=true)(h:PGs X es t)
  (hn:(assignEach es X.env).length=n:=by rfl) (hst:(assignEach es X.env).findIdx? (·.1)=none:=by rfl):PG X (.Tuple es k pos) (adT X.K n t):=by
 intro pins s σ H v u Q I r hw
 obtain⟨a,xs,e1,hq,hl,hw⟩:=hw
 subst e1
 cases r
 obtain⟨its,rv,ht,hz⟩:=I.tuple hq
 refine assign_Tuple_tuple (I.ok.hd hc) ht (by simp[hn,← hl,rv.length]) hst fun h' hx=>?_
 have I1:Inv X pins σ H {s with heap:=h'}:=I.kept (t':=s.toks) fun b o e=>hx b o (Nat.ne_of_lt (Heap.lt_size e)) e
 exact h pins _ σ H xs _ Q I1 (by simpa using rv) hw
def Va(te:TE)(g:TG):TS:=fun D σ H=>te σ H fun x H1=>g x σ H1 D.nx
theorem bu{i:Nat}{x:Str}{e:Expr}{te:TE}{pos':Pos}(hN:X.N.Nodup)(hi:X.N[i]?=some x)(hx:Loc X.env.scope x)(he:PE X e te)(hs:swapsWith e (some (.Name x pos')) pos.line X.env=pure false:=by rfl)(hf:X.fn x=true∨X.env.scope.names.lookup x=some .local:=by first | exact .inl rfl | exact .inr rfl | assumption) :
  PS X (.Assign [.Name x pos'] e pos) (Va te (uL i)):=by
 intro pins s σ H D I h
 refine wpAny_Assign_Name (thn (he pins s σ H _ I h) fun v s1 ⟨y,H1,I1,r1,q1⟩=>?_) hs
 exact Q3 I1 hN hi hx r1 (fun s2 I2=>⟨_,H1,I2,q1⟩) hf
end
section
variable {X:Cx}{pos:Pos}
def aai(c:TT)(tb:TS):TS:=fun D σ H=>∃W:Nat→St→Hp→Prop,(∃m,W m σ H)∧∀m σ H,W m σ H →
 c σ H fun b H1=>if b=true then ∃N:St→Hp→Prop,(∀σ' H',N σ' H'→∃m',m'<m∧W m' σ' H')∧tb {D with nx:=N,ct:=N,bk:=D.nx} σ H1 else D.nx σ H1
theorem aaO{c:Expr}{body:List Stmt}{tc:TT}{tb:TS}(hp:PassesOwn (model X.prog X.w) X.A X.env X.xe)(hc:PT X c tc)(hb:PSs X body tb):PS X (.While c body [] pos) (aai tc tb):=by
 intro pins s σ H D I h
 obtain⟨W,⟨m0,w0⟩,turn⟩:=h
 refine wpAny_While (codeAny_whileLoop (fun n s'=>∃σ' H',Inv X pins σ' H' s'∧W n σ' H') ?_ m0 ⟨σ,H,I,w0⟩)
 rintro n s1 ⟨σ1,H1,I1,w1⟩
 refine wpAny_passesOwn hp (thn (hc pins s1 σ1 H1 _ I1 (turn n σ1 H1 w1)) fun b s2 ⟨H2,I2,q2⟩=>?_)
 cases b with
 |true =>
  obtain⟨N,hN,q2⟩:=q2
  rw[if_pos rfl]
  refine wpAny_passesOwn hp (thn (hb pins s2 σ1 H2 _ I2 q2) fun f s3 q3=>?_)
  cases f with
  |next =>
   obtain⟨σ3,H3,I3,n3⟩:=q3
   obtain⟨m',hm,w3⟩:=hN σ3 H3 n3
   exact⟨m',hm,σ3,H3,I3,w3⟩
  |cont =>
   obtain⟨σ3,H3,I3,n3⟩:=q3
   obtain⟨m',hm,w3⟩:=hN σ3 H3 n3
   exact⟨m',hm,σ3,H3,I3,w3⟩
  |brk=>exact q3
  |ret v=>exact q3
 |false =>
  rw[if_neg Bool.false_ne_true]
  exact wpAny_execs_nil ⟨σ1,H2,I2,q2⟩
end
structure It where
 go:Nat→Hp→Prop
 yld:Nat→Hp→V→Hp→Prop
 stop:Nat→Hp→Prop
def tG(X:Cx)(pins:List (Addr×Obj))(H:Hp)(b:Addr):Prop :=
 H b=none∧b≠X.env.locals∧b∉X.fs∧(b∈X.ex∨X.s_0.heap.objs.size≤b)∧(∀x c,X.env.cells.lookup x=some c→c≠b)∧∀p∈X.pn++pins,p.1≠b
theorem Inv.Yo{X:Cx}{pins:List (Addr×Obj)}{σ:St}{H H':Hp}{s:Shared}{b:Addr}(I:Inv X pins σ H s)(hb:s.heap.objs.size≤b)(hn:H' b=none):tG X pins H' b:=by
 refine⟨hn,Nat.ne_of_gt (Nat.lt_of_lt_of_le I.lt hb),I.aen hb,.inr (Nat.le_trans I.sz hb),fun x c e z=>?_,fun p hp z=>?_⟩
 ·obtain⟨v,q⟩:=I.cell x c e
  exact absurd (Nat.lt_of_lt_of_le q.lt (by rw[z];exact hb)) (Nat.lt_irrefl _)
 ·exact absurd (Nat.lt_of_lt_of_le (Heap.lt_size (I.pin p hp).1) (by rw[z];exact hb)) (Nat.lt_irrefl _)
structure Turn(P:Program)(w:World)(K:PySem.W.Frag)(tg:Expr)(J:It)(fp:List Addr)(it:Addr)(tn:Nat→Heap→Prop):Prop where
 mem:it∈fp
 obj:∀i h,tn i h→∀b∈fp,∃o,h.get? b=some o∧∀v,o.data≠.cell v
 keep:∀i h h',tn i h→(∀b∈fp,∀o,h.get? b=some o→h'.get? b=some o)→tn i h'
 item:∀(X:Cx),X.prog=P→X.w=w→X.K=K→X.calm=true→∀(i:Nat) (pins:List (Addr×Obj)) (s:Shared) (σ:St) (H:Hp) (E:Value→Shared→Prop),Inv X pins σ H s→(∀b∈fp,tG X pins H b)→tn i s.heap→J.go i H →
  wpAny (model P w) X.A (pyNext (.ref it)) (fun r s1=>∃u,r=some u ∧
   wpAny (model P w) X.A (letOwnedTupleGo tg (.ref it) u) (fun _ s2=>∃x H',Inv X pins σ H' s2∧RelV x u∧J.yld i H x H'∧tn (i+1) s2.heap∧∀b∈fp,H' b=none) E s1) E s
 done:∀(X:Cx),X.prog=P→X.w=w→X.K=K→X.calm=true→∀(i:Nat) (pins:List (Addr×Obj)) (s:Shared) (σ:St) (H:Hp) (E:Value→Shared→Prop),Inv X pins σ H s→(∀b∈fp,tG X pins H b)→tn i s.heap→J.stop i H →
  wpAny (model P w) X.A (pyNext (.ref it)) (fun r s1=>r=none∧Inv X pins σ H s1) E s
 self:∀(A:Around) (i:Nat) (s:Shared) (Q:Value→Shared→Prop) (E:Value→Shared→Prop),tn i s.heap→Q (.ref it) s→wpAny (model P w) A (pyIter (.ref it)) Q E s
abbrev TI:=St→Hp→(It→Hp→Prop)→Prop
def PIE(X:Cx)(pins:List (Addr×Obj))(σ:St)(tg:Expr)(R:It→Hp→Prop)(itv:Value)(s2:Shared):Prop :=
 ∃(it:Addr) (fp:List Addr) (tn:Nat→Heap→Prop) (J:It) (H':Hp),itv=.ref it∧Inv X pins σ H' s2∧Turn X.prog X.w X.K tg J fp it tn∧tn 0 s2.heap∧(∀b∈fp,tG X pins H' b)∧R J H'
def PI(X:Cx)(tg iter:Expr)(wi:TI):Prop :=
 ∀(pins:List (Addr×Obj)) (s:Shared) (σ:St) (H:Hp) (R:It→Hp→Prop),Inv X pins σ H s→wi σ H R →
  wpAny (model X.prog X.w) X.A (eval iter X.env) (fun v s1=>wpAny (model X.prog X.w) X.A (pyIter v) (PIE X pins σ tg R) X.xe s1) X.xe s
theorem aah{M:Model}{A:Around}{E:Value→Shared→Prop}{s:Shared}{tg:Expr}{it:Addr}{u:Value}{o:Obj}{n:String}{vs:Array Value}{Q:Unit→Shared→Prop}(ho:s.heap.get? it=some o)(hc:o.cls=.type n)(hd:o.data=.fields vs)
  (hn:["enumerate","zip","dict_itemiterator","dict_reverseitemiterator","odict_iterator","itertools.zip_longest","itertools.pairwise"].contains n=false) (hQ:Q () s):wpAny M A (letOwnedTupleGo tg (.ref it) u) Q E s:=by
 unfold letOwnedTupleGo
 cases tg<;>first
  |exact wpAny_pure hQ
  |(cases u<;>first
    |exact wpAny_pure hQ
    |(refine wpAny_bind (wpAny_load ho ?_); rw[hc,hd]; show wpAny M A (if (["enumerate","zip","dict_itemiterator","dict_reverseitemiterator","odict_iterator","itertools.zip_longest","itertools.pairwise"].contains n&&vs[0]?==some (rawInt _))=true then _ else _) Q E s; rw[if_neg (by intro h;rw[hn,Bool.false_and]at h;cases h)]; exact wpAny_pure hQ))
def Itl(K:PySem.W.Frag)(a:Addr):It :=
 ⟨fun i H=>∃xs x,SqL K H a xs∧xs[i]?=some x,fun i H x H'=>H'=H∧∀xs,SqL K H a xs→xs[i]?=some x,fun i H=>∃xs,SqL K H a xs∧xs.length≤i⟩
def Itr(lo:Int)(n:Nat):It:=⟨fun i _=>i<n,fun i H x H'=>H'=H∧x=.int (lo+i),fun i _=>n≤i⟩
theorem Nz{P:Program}{w:World}{K:PySem.W.Frag}{tg:Expr}(a it:Addr):Turn P w K tg (Itl K a) [it] it (fun i h=>h.IsListIter it a i) where
 mem:=by simp
 obj:=fun i h st b hb=>by
  have e:b=it:=by simpa using hb
  subst e
  obtain⟨o,e,c,d⟩:=st
  exact⟨o,e,fun v z=>by rw[d]at z;cases z⟩
 keep:=fun i h h' st k=>st.at fun o e=>k it (by simp) o e
 item:=by
  intro X hP hw hK hc i pins s σ H E I hf st hg
  subst hP hw hK
  obtain⟨xs,x,hq,hx⟩:=hg
  obtain⟨its,rv,p,hz⟩:=I.list hq
  obtain⟨u,hu,ru⟩:=rv.get hx
  obtain⟨f0,f1,f2,f3,f4,f5⟩:=hf it (by simp)
  refine wpAny_pyNext_list_item st p.isList (x:=u) (by simpa using hu) fun h' st' sb=>?_
  have I1:Inv X pins σ H {s with heap:=h'}:=I.turned (t':=s.toks) (fun b o hb e=>(sb.2 b hb).trans e) f0 f1 f3 f4 f5
  obtain⟨o,e,c,d⟩:=id st'
  exact⟨u,rfl,aah (s:={s with heap:=h'}) e c d (by decide) ⟨x,H,I1,ru,⟨rfl,fun ys hy=>by rw[I.Zz hy hq];exact hx⟩,st',fun b hb=>(hf b hb).1⟩⟩
 done:=by
  intro X hP hw hK hc i pins s σ H E I hf st hg
  subst hP hw hK
  obtain⟨xs,hq,hx⟩:=hg
  obtain⟨its,rv,p,hz⟩:=I.list hq
  obtain⟨f0,f1,f2,f3,f4,f5⟩:=hf it (by simp)
  have hl:=rv.length
  exact wpAny_pyNext_list_end (I.ok.hd hc) st p.isList (by simp;omega) fun h' eb=>⟨rfl,I.turned (t':=s.toks) (fun b o hb e=>eb b o hb e) f0 f1 f3 f4 f5⟩
 self:=fun _ _ _ _ _ st h=>wpAny_pyIter_listiter st h
theorem Ui{P:Program}{w:World}{K:PySem.W.Frag}{tg:Expr}(it:Addr)(lo:Int)(n:Nat):Turn P w K tg (Itr lo n) [it] it (fun i h=>IsRangeIter h it (lo+(i:Nat) * 1) ((n:Int) - (i:Nat)) 1) where
 mem:=by simp
 obj:=fun i h st b hb=>by
  have e:b=it:=by simpa using hb
  subst e
  exact⟨_,st,fun v z=>by
   have z':Data.fields _=Data.cell v:=z
   cases z'⟩
 keep:=fun i h h' st k=>k it (by simp) _ st
 item:=by
  intro X hP hw hK hc i pins s σ H E I hf st hg
  subst hP hw hK
  obtain⟨f0,f1,f2,f3,f4,f5⟩:=hf it (by simp)
  have W:=Walks.range (prog:=X.prog) (w:=X.w) (I.ok.hd hc) it lo 1 n
  refine W.item i s _ _ hg st fun v h' tk hv st' kk=>?_
  obtain⟨t,rfl⟩:=hv
  have I1:Inv X pins σ H {s with heap:=h',toks:=tk}:=I.turned (fun b o hb e=>kk b o (by simpa using hb) e) f0 f1 f3 f4 f5
  refine⟨_,rfl,aah (s:={s with heap:=h',toks:=tk}) (n:="range_iterator") st' rfl rfl (by decide) ⟨.int (lo+i),H,I1,⟨t,?_⟩,⟨rfl,rfl⟩,st',fun b hb=>(hf b hb).1⟩⟩
  rw[Int.mul_one]
 done:=by
  intro X hP hw hK hc i pins s σ H E I hf st hg
  subst hP hw hK
  obtain⟨f0,f1,f2,f3,f4,f5⟩:=hf it (by simp)
  exact wpAny_pyNext_range_end (I.ok.hd hc) st (by have:n≤i:=hg;omega) fun h' eb=>⟨rfl,I.turned (t':=s.toks) (fun b o hb e=>eb b o hb e) f0 f1 f3 f4 f5⟩
 self:=fun _ _ _ _ _ st h=>wpAny_pyIter_rangeiter st h
end L2
namespace L2
open PySem PySem.Spec PyProof.Rows
section
variable {X:Cx}{tg:Expr}
def Oc(K:PySem.W.Frag)(tl:TE):TI:=fun σ H R=>tl σ H fun x H1=>∃a,x=.ref a∧(∃xs,SqL K H1 a xs)∧R (Itl K a) H1
theorem cY{l:Expr}{tl:TE}(hl:PE X l tl):PI X tg l (Oc X.K tl):=by
 intro pins s σ H R I h
 refine thn (hl pins s σ H _ I h) fun v s1 ⟨x,H1,I1,r1,q1⟩=>?_
 obtain⟨a,e,⟨xs,hq⟩,q⟩:=q1
 subst e
 cases r1
 obtain⟨its,rv,p,hz⟩:=I1.list hq
 refine wpAny_pyIter_list p.isList ?_
 refine⟨s1.heap.objs.size,[s1.heap.objs.size],_,_,H1,rfl,I1.kept (t':=s1.toks) fun b o e=>Heap.get?_push_of_some _ e,Nz a _,⟨_,Heap.get?_push_size _ rfl,rfl,rfl⟩,fun b hb=>?_,q⟩
 have e:b=s1.heap.objs.size:=by simpa using hb
 subst e
 exact I1.Yo (Nat.le_refl _) (I1.hok.fresh (Nat.le_refl _))
theorem RJ{pins:List (Addr×Obj)}{σ:St}{H:Hp}{s:Shared}{R:It→Hp→Prop}{E:Value→Shared→Prop}{lo hi:Int}{t u v:Tok}{tk:Nat}(I:Inv X pins σ H s)(h1:-(2 ^ 62)≤lo)(h2:lo<2 ^ 62)(h3:-(2 ^ 62)≤hi)(h4:hi<2 ^ 62)
  (q:R (Itr lo (hi - lo).toNat) H):wpAny (model X.prog X.w) X.A (pyIter (.ref s.heap.objs.size)) (PIE X pins σ tg R) E {s with heap:=s.heap.push {cls:=.type "range",data:=.fields #[.int lo t,.int hi u,.int 1 v]},toks:=tk}:=by
 refine wpAny_pyIter_range (IsRange.new ..) (small_one h1 h2 h3 h4) ?_
 have I1:Inv X pins σ H {s with heap:=s.heap.push {cls:=.type "range",data:=.fields #[.int lo t,.int hi u,.int 1 v]},toks:=tk}:=I.kept fun b o e=>Heap.get?_push_of_some _ e
 refine⟨(s.heap.push {cls:=.type "range",data:=.fields #[.int lo t,.int hi u,.int 1 v]}).objs.size,[(s.heap.push {cls:=.type "range",data:=.fields #[.int lo t,.int hi u,.int 1 v]}).objs.size],_,_,H,rfl,
  I1.kept (t':=tk) fun b o e=>Heap.get?_push_of_some _ e,Ui _ lo (hi - lo).toNat,?_,fun b hb=>?_,q⟩
 ·have e1:lo+((0:Nat):Int) * 1=lo:=by simp
  have e2:(((hi - lo).toNat:Nat):Int) - ((0:Nat):Int)=Builtin.Range.rangeSize lo hi 1:=by rw[rangeSize_one];split<;>omega
  show IsRangeIter _ _ (lo+((0:Nat):Int) * 1) ((((hi - lo).toNat:Nat):Int) - ((0:Nat):Int)) 1
  rw[e1,e2]
  exact Heap.get?_push_size _ rfl
 ·have e:b=(s.heap.push {cls:=.type "range",data:=.fields #[.int lo t,.int hi u,.int 1 v]}).objs.size:=by simpa using hb
  subst e
  exact I1.Yo (Nat.le_refl _) (I1.hok.fresh (Nat.le_refl _))
def Zu(ta:TA):TI:=fun σ H R=>ta σ H fun vs H1=>∃j:Int,vs=[.int j]∧-(2 ^ 62)≤j∧j<2 ^ 62∧R (Itr 0 j.toNat) H1
def aca(ta:TA):TI:=fun σ H R=>ta σ H fun vs H1=>∃i j:Int,vs=[.int i,.int j]∧(-(2 ^ 62)≤i∧i<2 ^ 62∧-(2 ^ 62)≤j∧j<2 ^ 62)∧R (Itr i (j - i).toNat) H1
theorem M8{a:Expr}{ta:TA}{p pos:Pos}(hg:Gl X "range")(hm:X.mg "range" = none)(ha:PA X [a] ta)(hs:starEach [a] X.env=[(false,eval a X.env)]:=by rfl):PI X tg (.Call (.Name "range" p) [a] [] pos) (Zu ta):=by
 intro pins s σ H R I h
 refine Call_ (CK I hg hm boot_range (PyProof.Rows.callWith_type1 (thn (ha pos pins s σ H _ I h) fun us s1 ⟨vs,H1,I1,r1,q1⟩=>?_) hs rfl))
 obtain⟨j,e,q1,q2,q⟩:=q1
 subst e
 cases r1 with
 |cons r rr =>
  cases rr
  obtain⟨t,rfl⟩:=r
  exact call_range_1 (RJ I1 (by omega) (by omega) q1 q2 (by simpa using q))
theorem Oj{a b:Expr}{ta:TA}{p pos:Pos}(hg:Gl X "range")(hm:X.mg "range" = none)(ha:PA X [a,b] ta)(hs:starEach [a,b] X.env=[(false,eval a X.env),(false,eval b X.env)]:=by rfl)(hs2:starEach [b] X.env=[(false,eval b X.env)]:=by rfl) :
  PI X tg (.Call (.Name "range" p) [a,b] [] pos) (aca ta):=by
 intro pins s σ H R I h
 refine Call_ (CK I hg hm boot_range (PyProof.Rows.callWith_type1 (thn (ha pos pins s σ H _ I h) fun us s1 ⟨vs,H1,I1,r1,q1⟩=>?_) (by rw[hs,hs2]) (by rw[hs2];rfl)))
 obtain⟨i,j,e,⟨q1,q2,q3,q4⟩,q⟩:=q1
 subst e
 cases r1 with
 |cons r rr =>
  cases rr with
  |cons r' rr =>
   cases rr
   obtain⟨t,rfl⟩:=r
   obtain⟨t',rfl⟩:=r'
   exact call_range_2 (RJ I1 q1 q2 q3 q4 q)
def aab(wi:TI)(g:TG)(tb:TS):TS:=fun D σ H=>wi σ H fun J H1=>∃W:Nat→Nat→St→Hp→Prop,(∃m,W 0 m σ H1)∧∀i m σ H,W i m σ H →
 (J.stop i H∧D.nx σ H)∨(J.go i H∧∃N:St→Hp→Prop,(∀σ' H',N σ' H'→∃m',m'<m∧W (i+1) m' σ' H')∧∀x H',J.yld i H x H'→g x σ H' fun σ2 H2=>tb {D with nx:=N,ct:=N,bk:=D.nx} σ2 H2)
def Je(fp:List Addr)(h:Heap):List (Addr×Obj):=fp.filterMap fun b=>(h.get? b).map fun o=>(b,o)
theorem uQ{fp:List Addr}{h:Heap}{b:Addr}{o:Obj}(hb:b∈fp)(e:h.get? b=some o):(b,o)∈Je fp h:=List.mem_filterMap.mpr ⟨b,hb,by rw[e];rfl⟩
theorem XH{fp:List Addr}{h:Heap}{p:Addr×Obj}(hp:p∈Je fp h):p.1∈fp∧h.get? p.1=some p.2:=by
 obtain⟨b,hb,e⟩:=List.mem_filterMap.mp hp
 cases q:h.get? b with
 |none=>rw[q]at e;cases e
 |some o =>
  rw[q]at e
  have e':(b,o)=p:=Option.some.inj e
  subst e'
  exact⟨hb,q⟩
theorem Inv.pinned{pins:List (Addr×Obj)}{σ:St}{H:Hp}{s:Shared}{fp:List Addr}(I:Inv X pins σ H s)(hf:∀b∈fp,tG X pins H b)(ho:∀b∈fp,∃o,s.heap.get? b=some o∧∀v,o.data≠.cell v):Inv X (pins++Je fp s.heap) σ H s :=
 I.Wl fun p hp=>(List.mem_append.mp hp).elim (fun z=>I.pin p (List.mem_append_right _ z)) fun z=>by
  obtain⟨hb,e⟩:=XH z
  obtain⟨f0,f1,f2,_⟩:=hf p.1 hb
  obtain⟨o,e',d⟩:=ho p.1 hb
  rw[e]at e';cases e'
  exact⟨e,f0,f1,f2,d⟩
theorem Inv.wV{pins pl:List (Addr×Obj)}{σ:St}{H:Hp}{s:Shared}(I:Inv X (pins++pl) σ H s):Inv X pins σ H s:=I.Wl fun p hp=>I.pin p (List.mem_append_right _ (List.mem_append_left _ hp))
theorem tK{iter:Expr}{body:List Stmt}{wi:TI}{g:TG}{tb:TS}{pos:Pos}(hp:PassesOwn (model X.prog X.w) X.A X.env X.xe)(hc:X.calm=true)(hi:PI X tg iter wi)(hg:PG X tg g)(hb:PSs X body tb)
  (hs:∀x,foldedSetIterable iter X.env x=pure x:=by intro _;rfl):PS X (.For tg iter body [] pos) (aab wi g tb):=by
 intro pins s σ H D I h
 refine wpAny_For (thn (hi pins s σ H _ I h) fun v s1 h1=>thn h1 fun itv s2 h2=>?_) hs
 obtain⟨it,fp,tn,J,H2,e,I2,T,st2,f2,W,⟨m0,w0⟩,turn⟩:=h2
 subst e
 have stat:∀{H':Hp},(∀b∈fp,H' b=none)→∀b∈fp,tG X pins H' b:=fun hn b hb=>⟨hn b hb,(f2 b hb).2⟩
 refine codeAny_forLoop_any (fun n s'=>∃i σ' H',Inv X pins σ' H' s'∧tn i s'.heap∧(∀b∈fp,H' b=none)∧W i n σ' H') ?_ m0 ⟨0,σ,H2,I2,st2,fun b hb=>(f2 b hb).1,w0⟩
 rintro n s3 ⟨i,σ3,H3,I3,st3,fr3,w3⟩
 rcases turn i n σ3 H3 w3 with ⟨stop,qn⟩|⟨go,N,hN,step⟩
 ·refine wpAny_passesOwn hp (thn (T.done X rfl rfl rfl hc i pins s3 σ3 H3 X.xe I3 (stat fr3) st3 stop) fun r s4 ⟨hr,I4⟩=>?_)
  subst hr
  exact wpAny_execs_nil ⟨σ3,H3,I4,qn⟩
 ·refine wpAny_passesOwn hp (thn (T.item X rfl rfl rfl hc i pins s3 σ3 H3 X.xe I3 (stat fr3) st3 go) fun r s4 ⟨u,hr,h4⟩=>?_)
  subst hr
  refine wpAny_passesOwn hp (thn h4 fun _ s5 ⟨x,H5,I5,r5,y5,st5,fr5⟩=>?_)
  have I5':=I5.pinned (stat fr5) (T.obj _ _ st5)
  refine wpAny_passesOwn hp (thn (hg _ s5 σ3 H5 x u _ I5' r5 (step x H5 y5)) fun _ s6 ⟨σ6,H6,I6,q6⟩=>?_)
  refine wpAny_passesOwn hp (thn (hb _ s6 σ6 H6 _ I6 q6) fun f s7 q7=>?_)
  have again:∀{σ7:St} {H7:Hp},Inv X (pins++Je fp s5.heap) σ7 H7 s7→N σ7 H7→∃m,m<n∧∃i σ' H',Inv X pins σ' H' s7∧tn i s7.heap∧(∀b∈fp,H' b=none)∧W i m σ' H':=fun{σ7 H7} I7 n7=>by
   obtain⟨m',hm,w7⟩:=hN σ7 H7 n7
   refine⟨m',hm,i+1,σ7,H7,I7.wV,T.keep _ _ _ st5 fun b hb o e=>(I7.pin (b,o) (List.mem_append_right _ (List.mem_append_right _ (uQ hb e)))).1,fun b hb=>?_,w7⟩
   obtain⟨o,e,d⟩:=T.obj _ _ st5 b hb
   exact(I7.pin (b,o) (List.mem_append_right _ (List.mem_append_right _ (uQ hb e)))).2.1
  cases f with
  |next=>obtain⟨σ7,H7,I7,n7⟩:=q7;exact again I7 n7
  |cont=>obtain⟨σ7,H7,I7,n7⟩:=q7;exact again I7 n7
  |brk=>obtain⟨σ7,H7,I7,q7⟩:=q7;exact⟨σ7,H7,I7.wV,q7⟩
  |ret v=>obtain⟨x7,σ7,H7,I7,r7,q7⟩:=q7;exact⟨x7,σ7,H7,I7.wV,r7,q7⟩
end
theorem JZ{K:PySem.W.Frag}{a:Addr}{xs:List V}{g:TG}{tb:TS}{D:Ends}{σ:St}{H:Hp}(Pv:Nat→St→Hp→Prop)(h0:Pv 0 σ H)(hl:∀i σ H,i≤xs.length→Pv i σ H→SqL K H a xs)
  (hs:∀i x σ H,xs[i]?=some x→Pv i σ H→g x σ H fun σ2 H2=>tb {D with nx:=Pv (i+1),ct:=Pv (i+1),bk:=D.nx} σ2 H2) (hd:∀σ H,Pv xs.length σ H→D.nx σ H) :
  ∃W:Nat→Nat→St→Hp→Prop,(∃m,W 0 m σ H)∧∀i m σ H,W i m σ H →
   ((Itl K a).stop i H∧D.nx σ H)∨((Itl K a).go i H∧∃N:St→Hp→Prop,(∀σ' H',N σ' H'→∃m',m'<m∧W (i+1) m' σ' H')∧∀x H',(Itl K a).yld i H x H'→g x σ H' fun σ2 H2=>tb {D with nx:=N,ct:=N,bk:=D.nx} σ2 H2):=by
 refine⟨fun i m σ H=>m=xs.length - i∧i≤xs.length∧Pv i σ H,⟨xs.length,by simp,Nat.zero_le _,h0⟩,?_⟩
 rintro i m σ H ⟨rfl,hi,p⟩
 have q:=hl i σ H hi p
 by_cases hlt:i<xs.length
 ·refine .inr ⟨⟨xs,xs[i],q,by simp[hlt]⟩,Pv (i+1),fun σ' H' p'=>⟨xs.length - (i+1),by omega,rfl,hlt,p'⟩,fun x H' y=>?_⟩
  obtain⟨e,y⟩:=y
  subst e
  exact hs i x σ _ (y xs q) p
 ·have e:i=xs.length:=by omega
  subst e
  exact .inl ⟨⟨xs,q,Nat.le_refl _⟩,hd σ H p⟩
theorem YJ{lo:Int}{n:Nat}{g:TG}{tb:TS}{D:Ends}{σ:St}{H:Hp}(Pv:Nat→St→Hp→Prop)(h0:Pv 0 σ H)
  (hs:∀i σ H,i<n→Pv i σ H→g (.int (lo+i)) σ H fun σ2 H2=>tb {D with nx:=Pv (i+1),ct:=Pv (i+1),bk:=D.nx} σ2 H2) (hd:∀σ H,Pv n σ H→D.nx σ H) :
  ∃W:Nat→Nat→St→Hp→Prop,(∃m,W 0 m σ H)∧∀i m σ H,W i m σ H →
   ((Itr lo n).stop i H∧D.nx σ H)∨((Itr lo n).go i H∧∃N:St→Hp→Prop,(∀σ' H',N σ' H'→∃m',m'<m∧W (i+1) m' σ' H')∧∀x H',(Itr lo n).yld i H x H'→g x σ H' fun σ2 H2=>tb {D with nx:=N,ct:=N,bk:=D.nx} σ2 H2):=by
 refine⟨fun i m σ H=>m=n - i∧i≤n∧Pv i σ H,⟨n,by simp,Nat.zero_le _,h0⟩,?_⟩
 rintro i m σ H ⟨rfl,hi,p⟩
 by_cases hlt:i<n
 ·refine .inr ⟨hlt,Pv (i+1),fun σ' H' p'=>⟨n - (i+1),by omega,rfl,hlt,p'⟩,fun x H' y=>?_⟩
  obtain⟨e,y⟩:=y
  subst e y
  exact hs i σ _ hlt p
 ·have e:i=n:=by omega
  subst e
  exact .inl ⟨Nat.le_refl _,hd σ H p⟩
end L2
namespace L2
open PySem PySem.Spec PyProof.Rows
abbrev R2:=V→V→Hp→VK→Prop
def OpR(X:Cx)(f:Value→Value→Sem Value)(r:R2):Prop :=
 ∀(pins:List (Addr×Obj)) (s:Shared) (σ:St) (H:Hp) (x y:V) (v u:Value) (Q:VK),Inv X pins σ H s→RelV x v→RelV y u→r x y H Q →
  wpAny (model X.prog X.w) X.A (f v u) (EP X pins σ Q) X.xe s
def UnR(X:Cx)(f:Value→Sem Value)(r:V→Hp→VK→Prop):Prop :=
 ∀(pins:List (Addr×Obj)) (s:Shared) (σ:St) (H:Hp) (x:V) (v:Value) (Q:VK),Inv X pins σ H s→RelV x v→r x H Q →
  wpAny (model X.prog X.w) X.A (f v) (EP X pins σ Q) X.xe s
def yH(X:Cx)(f:Value)(r:List V→Hp→VK→Prop):Prop :=
 ∀(pins:List (Addr×Obj)) (s:Shared) (σ:St) (H:Hp) (xs:List V) (us:List Value) (Q:VK),Inv X pins σ H s→Vals xs us→r xs H Q →
  wpAny (model X.prog X.w) X.A (call f us) (EP X pins σ Q) X.xe s
def tOp(r:R2)(ta tb:TE):TE:=fun σ H Q=>ta σ H fun x H1=>tb σ H1 fun y H2=>r x y H2 Q
def tUn(r:V→Hp→VK→Prop)(ta:TE):TE:=fun σ H Q=>ta σ H fun x H1=>r x H1 Q
def rI(C:Int→Int→Prop)(g:Int→Int→V):R2:=fun x y H Q=>∃i j,x=.int i∧y=.int j∧C i j∧Q (g i j) H
def rI0(g:Int→Int→V):R2:=fun x y H Q=>∃i j,x=.int i∧y=.int j∧Q (g i j) H
def rU(g:Int→V):V→Hp→VK→Prop:=fun x H Q=>∃i,x=.int i∧Q (g i) H
section
variable {X:Cx}{a b c:Expr}{ta tb tc:TE}{pos:Pos}
theorem ac8(ha:PE X a ta)(hb:PE X b tb){pins:List (Addr×Obj)}{s:Shared}{σ:St}{H:Hp}{R:V→V→Hp→Prop}(I:Inv X pins σ H s)
  (h:ta σ H fun x H1=>tb σ H1 fun y H2=>R x y H2) {Q:Value→Shared→Prop} {f:Value→Value→Sem Value}
  (hf:∀v u s2 x y H2,Inv X pins σ H2 s2→RelV x v→RelV y u→R x y H2→wpAny (model X.prog X.w) X.A (f v u) Q X.xe s2) :
  wpAny (model X.prog X.w) X.A (eval a X.env) (fun v s₁=>wpAny (model X.prog X.w) X.A (eval b X.env) (fun u s₂=>wpAny (model X.prog X.w) X.A (f v u) Q X.xe s₂) X.xe s₁) X.xe s:=by
 refine thn (ha pins s σ H _ I h) fun v s1 ⟨x,H1,I1,r1,q1⟩=>?_
 refine thn (hb pins s1 σ H1 _ I1 q1) fun u s2 ⟨y,H2,I2,r2,q2⟩=>?_
 exact hf v u s2 x y H2 I2 r1 r2 q2
theorem jm{op:Operator}{r:R2}(ho:OpR X (binaryOp op) r)(ha:PE X a ta)(hb:PE X b tb):PE X (.BinOp a op b pos) (tOp r ta tb):=by
 intro pins s σ H Q I h
 exact wpAny_BinOp (ac8 ha hb I h fun v u s2 x y H2 I2 rx ry q=>ho pins s2 σ H2 x y v u Q I2 rx ry q)
theorem acs{op:UnaryOp}{r:V→Hp→VK→Prop}(ho:UnR X (unaryOp op) r)(ha:PE X a ta):PE X (.UnaryOp op a pos) (tUn r ta):=by
 intro pins s σ H Q I h
 exact UnaryOp_ (thn (ha pins s σ H _ I h) fun v s1 ⟨x,H1,I1,r1,q1⟩=>ho pins s1 σ H1 x v Q I1 r1 q1)
theorem opI{f:Value→Value→Sem Value}{C:Int→Int→Prop}{g:Int→Int→Int}
  (rule:∀(i j:Int) (t u:Tok) (s:Shared) (Q:Value→Shared→Prop) (E:Value→Shared→Prop),C i j→Q (.int (g i j) s.toks) {s with toks:=s.toks+1}→wpAny (model X.prog X.w) X.A (f (.int i t) (.int j u)) Q E s) :
  OpR X f (rI C fun i j=>.int (g i j)):=by
 intro pins s σ H x y v u Q I rx ry h
 obtain⟨i,j,rfl,rfl,hc,q⟩:=h
 obtain⟨t,rfl⟩:=rx
 obtain⟨t',rfl⟩:=ry
 exact rule i j t t' s _ _ hc ⟨.int (g i j),H,I.tok _,⟨_,rfl⟩,q⟩
theorem aef{f:Value→Value→Sem Value}{g:Int→Int→Int}
  (rule:∀(i j:Int) (t u:Tok) (s:Shared) (Q:Value→Shared→Prop) (E:Value→Shared→Prop),Q (.int (g i j) s.toks) {s with toks:=s.toks+1}→wpAny (model X.prog X.w) X.A (f (.int i t) (.int j u)) Q E s) :
  OpR X f (rI0 fun i j=>.int (g i j)):=by
 intro pins s σ H x y v u Q I rx ry h
 obtain⟨i,j,rfl,rfl,q⟩:=h
 obtain⟨t,rfl⟩:=rx
 obtain⟨t',rfl⟩:=ry
 exact rule i j t t' s _ _ ⟨.int (g i j),H,I.tok _,⟨_,rfl⟩,q⟩
theorem abM{f:Value→Value→Sem Value}{g:Int→Int→Bool}
  (rule:∀(i j:Int) (t u:Tok) (s:Shared) (Q:Value→Shared→Prop) (E:Value→Shared→Prop),Q (.bool (g i j)) s→wpAny (model X.prog X.w) X.A (f (.int i t) (.int j u)) Q E s) :
  OpR X f (rI0 fun i j=>.bl (g i j)):=by
 intro pins s σ H x y v u Q I rx ry h
 obtain⟨i,j,rfl,rfl,q⟩:=h
 obtain⟨t,rfl⟩:=rx
 obtain⟨t',rfl⟩:=ry
 exact rule i j t t' s _ _ ⟨.bl (g i j),H,I,rfl,q⟩
def aeg(i j:Int):Prop:=0<j∧j<1073741824
theorem zc:OpR X (binaryOp .Add) (rI0 fun i j=>.int (i+j)):=aef fun _ _ _ _ _ _ _ q=>add_int q
theorem QT:OpR X (binaryOp .FloorDiv) (rI aeg fun i j=>.int (i / j)):=opI fun i j _ _ _ _ _ hc q=>by
 have h1:(0:Int)<j:=hc.1
 have h2:j<1073741824:=hc.2
 exact floordiv_int (by omega) (by rw[Int.fdiv_eq_ediv_of_nonneg i (by omega)];exact q) (.inl (PyProof.noPylong_small (by omega)))
theorem adv:OpR X (binaryOp .Mod) (rI (fun _ j=>0<j) fun i j=>.int (i % j)):=opI fun i j _ _ _ _ _ hc q=>by
 have h1:(0:Int)<j:=hc
 exact mod_int' (by omega) (by rw[Int.fmod_eq_emod_of_nonneg i (by omega)];exact q)
theorem unI{f:Value→Sem Value}{g:Int→Int}
  (rule:∀(i:Int) (t:Tok) (s:Shared) (Q:Value→Shared→Prop) (E:Value→Shared→Prop),Q (.int (g i) s.toks) {s with toks:=s.toks+1}→wpAny (model X.prog X.w) X.A (f (.int i t)) Q E s) :
  UnR X f (rU fun i=>.int (g i)):=by
 intro pins s σ H x v Q I rx h
 obtain⟨i,rfl,q⟩:=h
 obtain⟨t,rfl⟩:=rx
 exact rule i t s _ _ ⟨.int (g i),H,I.tok _,⟨_,rfl⟩,q⟩
theorem ZX:UnR X (unaryOp .USub) (rU fun i=>.int (-i)):=unI fun _ _ _ _ _ q=>neg_int q
end
def abe:V→V→Bool
 |.non,.non=>true | .non,.int _=>true | .int _,.non=>true | .non,.bl _=>true | .bl _,.non=>true | .non,.str _=>true | .str _,.non=>true
 |.int _,.int _=>true | .bl _,.bl _=>true | .str _,.str _=>true | .byt _,.byt _=>true
 |.int _,.str _=>true | .str _,.int _=>true | .bl _,.str _=>true | .str _,.bl _=>true
 |_,_=>false
def rEq:R2:=fun x y H Q=>abe x y=true∧Q (.bl (decide (x=y))) H
def rNe:R2:=fun x y H Q=>abe x y=true∧Q (.bl (!decide (x=y))) H
theorem Xe{i j:Int}:decide (V.int i=V.int j)=(i==j):=by
 rw[Bool.eq_iff_iff]
 simp
theorem Z6{i j:Bool}:decide (V.bl i=V.bl j)=(i==j):=by
 rw[Bool.eq_iff_iff]
 simp
theorem W8{i j:Str}:decide (V.str i=V.str j)=(i==j):=by
 rw[Bool.eq_iff_iff]
 simp
theorem Xa{i j:Array UInt8}:decide (V.byt i=V.byt j)=(i.toList==j.toList):=by
 rw[Bool.eq_iff_iff]
 cases i
 cases j
 simp
section
variable {X:Cx}{a b c:Expr}{ta tb tc:TE}{pos:Pos}
theorem dF{pins:List (Addr×Obj)}{σ:St}{H:Hp}{s:Shared}{Q:VK}{k k':Bool}(I:Inv X pins σ H s)(q:Q (.bl k) H)(e:k=k'):EP X pins σ Q (.bool k') s:=by
 subst e
 exact⟨.bl k,H,I,rfl,q⟩
theorem dm:OpR X (compareOp .Eq) rEq:=by
 intro pins s σ H x y v u Q I rx ry h
 obtain⟨hs,q⟩:=h
 cases x with
 |non =>
  cases rx
  cases y with
  |non=>cases ry;exact PySem.EqNone.eq_none_none (dF I q (by simp))
  |bl j=>cases ry;exact PySem.EqNone.eq_none_bool (dF I q (by simp))
  |int j=>obtain⟨t',rfl⟩:=ry;exact PySem.EqNone.eq_none_int (dF I q (by simp))
  |str j=>obtain⟨t',rfl⟩:=ry;exact PySem.EqNone.eq_none_str (dF I q (by simp))
  |_=>exact absurd (show false=true from hs) Bool.false_ne_true
 |bl i =>
  cases rx
  cases y with
  |non=>cases ry;exact PySem.EqNone.eq_bool_none (dF I q (by simp))
  |bl j=>cases ry;exact eq_bool (dF I q Z6)
  |str j=>obtain⟨t',rfl⟩:=ry;exact PySem.EqMixed.eq_bool_str (dF I q (by simp))
  |_=>exact absurd (show false=true from hs) Bool.false_ne_true
 |int i =>
  obtain⟨t,rfl⟩:=rx
  cases y with
  |non=>cases ry;exact PySem.EqNone.eq_int_none (dF I q (by simp))
  |int j=>obtain⟨t',rfl⟩:=ry;exact eq_int (dF I q Xe)
  |str j=>obtain⟨t',rfl⟩:=ry;exact PySem.EqMixed.eq_int_str (dF I q (by simp))
  |_=>exact absurd (show false=true from hs) Bool.false_ne_true
 |str i =>
  obtain⟨t,rfl⟩:=rx
  cases y with
  |non=>cases ry;exact PySem.EqNone.eq_str_none (dF I q (by simp))
  |bl j=>cases ry;exact PySem.EqMixed.eq_str_bool (dF I q (by simp))
  |int j=>obtain⟨t',rfl⟩:=ry;exact PySem.EqMixed.eq_str_int (dF I q (by simp))
  |str j=>obtain⟨t',rfl⟩:=ry;exact eq_str (dF I q W8)
  |_=>exact absurd (show false=true from hs) Bool.false_ne_true
 |byt i =>
  obtain⟨t,rfl⟩:=rx
  cases y with
  |byt j=>obtain⟨t',rfl⟩:=ry;exact PySem.W.eq_bytes (dF I q Xa)
  |_=>exact absurd (show false=true from hs) Bool.false_ne_true
 |_=>cases y<;>exact absurd (show false=true from hs) Bool.false_ne_true
theorem jr:OpR X (compareOp .NotEq) rNe:=by
 intro pins s σ H x y v u Q I rx ry h
 obtain⟨hs,q⟩:=h
 cases x with
 |non =>
  cases rx
  cases y with
  |non=>cases ry;exact PySem.EqNone.ne_none_none (dF I q (by simp))
  |bl j=>cases ry;exact PySem.EqNone.ne_none_bool (dF I q (by simp))
  |int j=>obtain⟨t',rfl⟩:=ry;exact PySem.EqNone.ne_none_int (dF I q (by simp))
  |str j=>obtain⟨t',rfl⟩:=ry;exact PySem.EqNone.ne_none_str (dF I q (by simp))
  |_=>exact absurd (show false=true from hs) Bool.false_ne_true
 |bl i =>
  cases rx
  cases y with
  |non=>cases ry;exact PySem.EqNone.ne_bool_none (dF I q (by simp))
  |bl j=>cases ry;exact ne_bool (dF I q (congrArg not Z6))
  |str j=>obtain⟨t',rfl⟩:=ry;exact PySem.EqMixed.ne_bool_str (dF I q (by simp))
  |_=>exact absurd (show false=true from hs) Bool.false_ne_true
 |int i =>
  obtain⟨t,rfl⟩:=rx
  cases y with
  |non=>cases ry;exact PySem.EqNone.ne_int_none (dF I q (by simp))
  |int j=>obtain⟨t',rfl⟩:=ry;exact ne_int (dF I q (congrArg not Xe))
  |str j=>obtain⟨t',rfl⟩:=ry;exact PySem.EqMixed.ne_int_str (dF I q (by simp))
  |_=>exact absurd (show false=true from hs) Bool.false_ne_true
 |str i =>
  obtain⟨t,rfl⟩:=rx
  cases y with
  |non=>cases ry;exact PySem.EqNone.ne_str_none (dF I q (by simp))
  |bl j=>cases ry;exact PySem.EqMixed.ne_str_bool (dF I q (by simp))
  |int j=>obtain⟨t',rfl⟩:=ry;exact PySem.EqMixed.ne_str_int (dF I q (by simp))
  |str j=>obtain⟨t',rfl⟩:=ry;exact ne_str (dF I q (congrArg not W8))
  |_=>exact absurd (show false=true from hs) Bool.false_ne_true
 |byt i =>
  obtain⟨t,rfl⟩:=rx
  cases y with
  |byt j=>obtain⟨t',rfl⟩:=ry;exact PySem.W.ne_bytes (dF I q (congrArg not Xa))
  |_=>exact absurd (show false=true from hs) Bool.false_ne_true
 |_=>cases y<;>exact absurd (show false=true from hs) Bool.false_ne_true
theorem adH:OpR X (compareOp .Lt) (rI0 fun i j=>.bl (decide (i<j))):=abM fun _ _ _ _ _ _ _ q=>lt_int q
theorem eX:OpR X (compareOp .LtE) (rI0 fun i j=>.bl (decide (i≤j))):=abM fun _ _ _ _ _ _ _ q=>le_int q
theorem aaD:OpR X (compareOp .Gt) (rI0 fun i j=>.bl (decide (j<i))):=abM fun _ _ _ _ _ _ _ q=>gt_int q
theorem Xb:OpR X (compareOp .GtE) (rI0 fun i j=>.bl (decide (j≤i))):=abM fun _ _ _ _ _ _ _ q=>ge_int q
theorem aaP:OpR X (compareOp .Is) (fun x y H Q=>y=.non∧Q (.bl (decide (x=.non))) H):=by
 intro pins s σ H x y v u Q I rx ry h
 obtain⟨rfl,q⟩:=h
 cases ry
 refine is_none_gen (dF I q ?_)
 cases x<;>first
  |(cases rx;rfl)
  |(obtain⟨t,rfl⟩:=rx;rfl)
theorem aQ(b:Expr){op:CmpOp}(h:op≠.In:=by decide)(h2:op≠.NotIn:=by decide):behindInMarks op b=false:=by
 have e1:(op==CmpOp.In)=false:=by cases op<;>first | rfl | exact absurd rfl h
 have e2:(op==CmpOp.NotIn)=false:=by cases op<;>first | rfl | exact absurd rfl h2
 cases b<;>simp[behindInMarks,e1,e2]
theorem fK{op:CmpOp}{r:R2}(ho:OpR X (compareOp op) r)(ha:PE X a ta)(hb:PE X b tb)(hm:behindInMarks op b=false):PE X (.Compare a [op] [b] pos) (tOp r ta tb):=by
 intro pins s σ H Q I h
 exact wpAny_Compare1 (ac8 ha hb I h fun v u s2 x y H2 I2 rx ry q=>ho pins s2 σ H2 x y v u Q I2 rx ry q) hm
def WY(t:TE):TT:=fun σ H Q=>t σ H fun x H'=>∃k,x=.bl k∧Q k H'
theorem aR{op:CmpOp}{r:R2}(ho:OpR X (compareOp op) r)(ha:PE X a ta)(hb:PE X b tb)(hm:behindInMarks op b=false):PT X (.Compare a [op] [b] pos) (WY (tOp r ta tb)):=by
 intro pins s σ H Q I h
 refine wpAny_isTrue_Compare1 (thn (ha pins s σ H _ I h) fun v s1 ⟨x,H1,I1,r1,q1⟩=>thn (hb pins s1 σ H1 _ I1 q1) fun u s2 ⟨y,H2,I2,r2,q2⟩ =>
  thn (ho pins s2 σ H2 x y v u _ I2 r1 r2 q2) fun c s3 ⟨z,H3,I3,r3,k,e,q3⟩=>?_) hm
 subst e
 cases r3
 exact wpAny_truthy_bool ⟨H3,I3,q3⟩
def UT(r r':R2)(ta tb tc:TE):TE:=fun σ H Q=>ta σ H fun x H1=>tb σ H1 fun y H2=>r x y H2 fun z H3=>∃k,z=.bl k ∧
 (if k=true then tc σ H3 fun w' H4=>r' y w' H4 Q else Q (.bl false) H3)
theorem iu{op op':CmpOp}{r r':R2}(ho:OpR X (compareOp op) r)(ho':OpR X (compareOp op') r')(ha:PE X a ta)(hb:PE X b tb)(hc:PE X c tc)
  (hm:lastMarks [op,op'] [b,c]=false:=by with_unfolding_all rfl):PE X (.Compare a [op,op'] [b,c] pos) (UT r r' ta tb tc):=by
 intro pins s σ H Q I h
 refine Compare_chain (thn (ha pins s σ H _ I h) fun v s1 ⟨x,H1,I1,r1,q1⟩=>chain_link (thn (hb pins s1 σ H1 _ I1 q1) fun u s2 ⟨y,H2,I2,r2,q2⟩ =>
  thn (ho pins s2 σ H2 x y v u _ I2 r1 r2 q2) fun d s3 ⟨z,H3,I3,r3,k,e,q3⟩=>?_)) hm
 subst e
 cases r3
 refine wpAny_truthy_bool ?_
 cases k with
 |false=>exact ite_ff ⟨.bl false,H3,I3,rfl,q3⟩
 |true=>exact ite_tt (chain_last (thn (hc pins s3 σ H3 _ I3 q3) fun w' s4 ⟨z',H4,I4,r4,q4⟩=>ho' pins s4 σ H4 y z' u w' Q I4 r2 r4 q4))
theorem RT{op op':CmpOp}{r r':R2}(ho:OpR X (compareOp op) r)(ho':OpR X (compareOp op') r')(ha:PE X a ta)(hb:PE X b tb)(hc:PE X c tc)
  (hm:lastMarks [op,op'] [b,c]=false:=by with_unfolding_all rfl):PT X (.Compare a [op,op'] [b,c] pos) (WY (UT r r' ta tb tc)):=by
 intro pins s σ H Q I h
 refine isTrue_chain (thn (ha pins s σ H _ I h) fun v s1 ⟨x,H1,I1,r1,q1⟩=>test_link (thn (hb pins s1 σ H1 _ I1 q1) fun u s2 ⟨y,H2,I2,r2,q2⟩ =>
  thn (ho pins s2 σ H2 x y v u _ I2 r1 r2 q2) fun d s3 ⟨z,H3,I3,r3,k,e,q3⟩=>?_)) hm
 subst e
 cases r3
 refine wpAny_truthy_bool ?_
 cases k with
 |false =>
  obtain⟨k',e',q'⟩:=q3
  cases e'
  exact ite_ff ⟨H3,I3,q'⟩
 |true =>
  refine ite_tt (test_last (thn (hc pins s3 σ H3 _ I3 q3) fun w' s4 ⟨z',H4,I4,r4,q4⟩=>thn (ho' pins s4 σ H4 y z' u w' _ I4 r2 r4 q4) fun d' s5 ⟨z2,H5,I5,r5,k2,e2,q5⟩=>?_))
  subst e2
  cases r5
  exact wpAny_truthy_bool ⟨H5,I5,q5⟩
theorem OD:(sizeLine:Nat)<2 ^ 63:=by rw[sizeLine_eq];decide
theorem vals1{x:V}{us:List Value}(r:Vals [x] us):∃u,us=[u]∧RelV x u:=by
 cases r with
 |cons r1 r2=>cases r2;exact⟨_,rfl,r1⟩
theorem vals2{x y:V}{us:List Value}(r:Vals [x,y] us):∃u w',us=[u,w']∧RelV x u∧RelV y w':=by
 cases r with
 |cons r1 r2 =>
  cases r2 with
  |cons r3 r4=>cases r4;exact⟨_,_,rfl,r1,r3⟩
theorem Yx(hc:X.calm=true):yH X (.builtin "min") (fun xs H Q=>∃i j,xs=[.int i,.int j]∧Q (.int (if j<i then j else i)) H):=by
 intro pins s σ H xs us Q I r h
 obtain⟨i,j,rfl,q⟩:=h
 obtain⟨u,w',rfl,⟨t,rfl⟩,⟨t',rfl⟩⟩:=vals2 r
 refine min_two_ints (I.ok.hd hc) fun h' tk k=>⟨_,H,I.kept k,?_,q⟩
 by_cases hj:j<i
 ·rw[if_pos hj,if_pos hj];exact⟨_,rfl⟩
 ·rw[if_neg hj,if_neg hj];exact⟨_,rfl⟩
theorem Bc:yH X (.type "int") (fun xs H Q=>(∃i,xs=[.int i]∧Q (.int i) H)∨∃k,xs=[.bl k]∧Q (.int (if k then 1 else 0)) H):=by
 intro pins s σ H xs us Q I r h
 rcases h with ⟨i,rfl,q⟩|⟨k,rfl,q⟩
 ·obtain⟨u,rfl,t,rfl⟩:=vals1 r
  exact call_int_int ⟨.int i,H,I,⟨_,rfl⟩,q⟩
 ·obtain⟨u,rfl,r1⟩:=vals1 r
  cases r1
  exact call_int_bool ⟨.int (if k then 1 else 0),H,I.tok _,⟨_,rfl⟩,q⟩
end
end L2
namespace L2
open PySem PySem.Spec PyProof.Rows
structure Vp(h:Heap)(x dx C:Addr)(mA:Str→Option Value):Prop where
 obj:h.get? x=some (PySem.W.instObj C dx)
 ns:h.Ns1 dx mA
 ne:dx≠x
theorem XF{h:Heap}{dx:Addr}{mA:Str→Option Value}(n:h.Ns1 dx mA):∃od,h.get? dx=some od∧∀name,PySem.W.lookIn name od=some (mA name):=by
 obtain⟨o,es,ep,ho,hd,hk,_,hm⟩:=n
 refine⟨o,ho,fun name=>?_⟩
 have e:=hm name
 unfold nsFind findBy at e
 rw[← Array.find?_toList]at e
 unfold PySem.W.lookIn
 rw[hd]
 dsimp only
 split
 ·rename_i y q
  rw[q]at e
  exact congrArg some e
 ·rename_i q
  rw[q]at e
  have a:es.toList.any (·.refKey)=false:=by
   rw[List.any_eq_false]
   intro y hy
   obtain⟨z,t,hkey⟩:=hk y (Array.mem_toList_iff.mp hy)
   simp[DictEntry.refKey,hkey]
  have a':¬es.toList.any (·.refKey)=true:=by rw[a];exact Bool.false_ne_true
  rw[if_neg a']
  exact congrArg some e
theorem Vp.look{h:Heap}{x dx C:Addr}{mA:Str→Option Value}(I:Vp h x dx C mA):∃od,PySem.W.InstAt h x (PySem.W.instObj C dx) C (some od)∧∀name,PySem.W.lookIn name od=some (mA name) :=
 let ⟨od,ho,hl⟩:=XF I.ns
 ⟨od,⟨I.obj,rfl,rfl,ho⟩,hl⟩
section
variable {prog:Program}{w:World}{A:Around}{E:Value→Shared→Prop}{s:Shared}{K:PySem.W.Frag}{x dx C f:Addr}{mA:Str→Option Value}{name:Str}{v:Value}
theorem get_map{expr:Bool}{Q:Value→Shared→Prop}(X:K.In s.heap)(I:Vp s.heap x dx C mA)(hg:PySem.W.plainGet K C name=true)(hh:PySem.W.hasDictIn K C=true)
  (ha:PySem.W.findIn K (.ref C) name=some none) (hv:mA name=some v) (hv':PySem.W.handedIn v=true) (h:Q v {s with toks:=s.toks+1}) :
  wpAny (model prog w) A (getAttr (.ref x) name expr) Q E s:=by
 obtain⟨od,J,hl⟩:=I.look
 exact PySem.W.get_value X J (PySem.W.plainGet_of hg).1 (PySem.W.findObj_own hh ha rfl (by rw[hl,hv])) hv' h
theorem aao{pl:Sem Bool}{Q:Value×List Value→Shared→Prop}(X:K.In s.heap)(I:Vp s.heap x dx C mA)(hg:PySem.W.plainGet K C name=true)
  (hf:PySem.W.findIn K (.ref C) name=some (some (.ref f))) (ht:PySem.W.isFn K (.ref f)=true) (hv:mA name=none) (h:Q (.ref f,[.ref x]) s) :
  wpAny (model prog w) A (getMethod (.ref x) name pl) Q E s:=by
 obtain⟨od,J,hl⟩:=I.look
 exact PySem.W.method_fn X J (PySem.W.plainGet_of hg).1 (PySem.W.plainGet_of hg).2 hf (beq_iff_eq.mp ht) (by show(PySem.W.lookIn name od).map (·.isSome)=some false;rw[hl,hv];rfl) h
theorem abl{ns:List Str}{Q:Unit→Shared→Prop}(X:K.In s.heap)(I:Vp s.heap x dx C mA)
  (hs:PySem.W.findIn K (.ref C) "__setattr__" = some (some (.builtin "object.__setattr__"))) (hp:PySem.W.plainOver K C=true) (ht:PySem.W.takerIn K C name=some none) (hh:PySem.W.hasDictIn K C=true)
  (hw:PySem.Within mA ns) (hsz:ns.length≤sizeLine)
  (h:∀h',Vp h' x dx C (fun y=>if y=name then some v else mA y)→Heap.SameBut dx s.heap h'→Q () {s with heap:=h',toks:=s.toks+2}) :
  wpAny (model prog w) A (setAttr (.ref x) name v) Q E s:=by
 obtain⟨od,J,hl⟩:=I.look
 refine PySem.W.set_plain X J hs (PySem.W.osa_open (s:={s with toks:=s.toks+1}) (r:=none) X J hp ht fun b=>?_)
 obtain⟨cd,hc,hd'⟩:=PySem.W.any_some hh
 have hx:s.heap.get? x=some ⟨.ref C,some dx,.plain,#[]⟩:=I.obj
 refine wpAny_bind (wpAny_pure (wpAny_bind (wpAny_bind (wpAny_loadPart hx (wpAny_bind (PySem.W.Looks.here (s:={s with toks:=s.toks+1}) (PySem.W.looks_clsIn X hc) ?_))))))
 rw[hd']
 refine wpAny_pure (a:=some dx) (wpAny_bind (wpAny_pure (wpAny_bind ?_)))
 refine wpAny_nsSet1 (s:={s with toks:=s.toks+1}) I.ns fun h' hn2 hs2=>?_
 obtain⟨oD,esD,epD,hoD,hdD,hcD⟩:=hn2.count (PySem.Within.cons name v hw)
 refine wpAny_bind (wpAny_lookBehind hoD (by rw[hdD];exact pastItsLine_dict (Nat.le_trans hcD (by rw[List.length_cons];omega))) ?_)
 exact wpAny_pure (h _ ⟨(hs2.2 _ (Ne.symm I.ne)).trans I.obj,hn2,I.ne⟩ hs2)
theorem Z9{R:Result→Shared→Prop}{vs:List Value}{kw:List (Str×Value)}(X:K.In s.heap)(hm:PySem.W.makesIn K C=true)
  (hi:PySem.W.findIn K (.ref C) "__init__" = some (some (.ref f))) (hf:PySem.W.typeIn K (.ref f)=some (.type "function"))
  (h:codeAny (model prog w) (A.under (.builtin "type.__call__" ⟨.ref C::vs,kw⟩)) (.call (.ref f) ⟨.ref (s.heap.objs.size+1)::vs,kw⟩) (PySem.W.InitBack (s.heap.objs.size+1) R)
   {s with heap:=(s.heap.push PySem.W.emptyDict).push (PySem.W.instObj C s.heap.objs.size)}) :
  codeAny (model prog w) A (.call (.ref C) ⟨vs,kw⟩) R s:=by
 obtain⟨hh,g,d,t,os⟩:=s
 exact PySem.W.make_core (PySem.W.makes_of X hm) (PySem.W.looks_findIn X hi) (fun self=>PySem.W.bind_fn X self hf) (.inl rfl) h
end
def bK(f:Str)(v:V):List (Str×V)→List (Str×V)
 |[]=>[(f,v)]
 |(g,x)::r=>if g=f then (g,v)::r else (g,x)::bK f v r
theorem pq(f g:Str)(v:V):∀fs:List (Str×V),(bK f v fs).lookup g=if g=f then some v else fs.lookup g
 |[]=>by
  show List.lookup g [(f,v)]=_
  by_cases h:g=f
  ·have hb:(g==f)=true:=beq_iff_eq.mpr h
   simp only[List.lookup,hb,if_pos h]
  ·have hb:(g==f)=false:=beq_eq_false_iff_ne.mpr h
   simp only[List.lookup,hb,if_neg h]
 |(k,x)::r=>by
  have ih:=pq f g v r
  rw[show bK f v ((k,x)::r)=(if k=f then (k,v)::r else (k,x)::bK f v r)from rfl]
  by_cases hk:k=f
  ·rw[if_pos hk]
   by_cases h:g=k
   ·have hb:(g==k)=true:=beq_iff_eq.mpr h
    simp only[List.lookup,hb,if_pos (h.trans hk)]
   ·have hb:(g==k)=false:=beq_eq_false_iff_ne.mpr h
    simp only[List.lookup,hb,if_neg (fun e:g=f=>h (e.trans hk.symm))]
  ·rw[if_neg hk]
   by_cases h:g=k
   ·have hb:(g==k)=true:=beq_iff_eq.mpr h
    simp only[List.lookup,hb,if_neg (fun e:g=f=>hk (h.symm.trans e))]
   ·have hb:(g==k)=false:=beq_eq_false_iff_ne.mpr h
    simp only[List.lookup,hb]
    exact ih
theorem Gw(f:Str)(v:V):∀fs:List (Str×V),f∈(bK f v fs).map (·.1)∧∀g,g∈fs.map (·.1)→g∈(bK f v fs).map (·.1)
 |[]=>⟨by simp[bK],fun g h=>by simp at h⟩
 |(k,x)::r=>by
  obtain⟨i1,i2⟩:=Gw f v r
  rw[show bK f v ((k,x)::r)=(if k=f then (k,v)::r else (k,x)::bK f v r)from rfl]
  by_cases hk:k=f
  ·rw[if_pos hk]
   subst hk
   exact⟨by simp,fun g h=>by simpa using h⟩
  ·rw[if_neg hk]
   refine⟨?_,fun g h=>?_⟩
   ·rw[List.map_cons]
    exact List.mem_cons_of_mem _ i1
   ·rw[List.map_cons]at h ⊢
    rcases List.mem_cons.mp h with e|e
    ·exact List.mem_cons.mpr (.inl e)
    ·exact List.mem_cons_of_mem _ (i2 g e)
theorem HB(f:Str)(v:V):∀fs:List (Str×V),(bK f v fs).length≤fs.length+1
 |[]=>by simp[bK]
 |(k,x)::r=>by
  have ih:=HB f v r
  rw[show bK f v ((k,x)::r)=(if k=f then (k,v)::r else (k,x)::bK f v r)from rfl]
  by_cases hk:k=f
  ·rw[if_pos hk,List.length_cons,List.length_cons];omega
  ·rw[if_neg hk,List.length_cons,List.length_cons];omega
theorem zb.some_of{v:V}{o:Option Value}(r:zb (some v) o):∃u,o=some u∧RelV v u:=by
 cases o with
 |none=>exact(show False from r).elim
 |some u=>exact⟨u,rfl,r⟩
theorem zb.none_of{o:Option Value}(r:zb none o):o=none:=by
 cases o with
 |none=>rfl
 |some u=>exact(show False from r).elim
theorem YG{v:V}{u:Value}(r:RelV v u):PySem.W.handedIn u=true:=by
 cases v with
 |non=>cases (show u=Value.none from r);rfl
 |bl b=>cases (show u=Value.bool b from r);rfl
 |int i=>obtain⟨t,e⟩:=(show ∃t,u=Value.int i t from r);cases e;rfl
 |str x=>obtain⟨t,e⟩:=(show ∃t,u=Value.str x t from r);cases e;rfl
 |byt b=>obtain⟨t,e⟩:=(show ∃t,u=Value.bytes b t from r);cases e;rfl
 |flt b=>obtain⟨t,e⟩:=(show ∃t,u=Value.float b t from r);cases e;rfl
 |ref a=>cases (show u=Value.ref a from r);rfl
 |ty n=>cases (show u=Value.type n from r);rfl
section
variable {P:Program}{w:World}{H H':Hp}{h h':Heap}{a C dx:Addr}{fs fs':List (Str×V)}
theorem Ov(hok:HOk P w H h)(e:H a=some (.ins C dx fs)):∃mA,Vp h a dx C mA∧(∀f,zb (fs.lookup f) (mA f))∧PySem.Within mA (fs.map (·.1))∧fs.length≤1000∧H dx=some (.own a):=by
 obtain⟨d,z,ne,ob,mA,n,r,q⟩:=(show iz P w H h a (.ins C dx fs)from hok a _ e)
 exact⟨mA,⟨ob,n,ne⟩,r,q,z,d⟩
end
structure Cls(K:PySem.W.Frag)(C:Addr):Prop where
 pg:PySem.W.plainGet K C Str.empty=true
 hd:PySem.W.hasDictIn K C=true
 po:PySem.W.plainOver K C=true
 sa:PySem.W.findIn K (.ref C) "__setattr__" = some (some (.builtin "object.__setattr__"))
theorem Cls.get{K:PySem.W.Frag}{C:Addr}(c:Cls K C)(f:Str):PySem.W.plainGet K C f=true:=c.pg
def cJ(K:PySem.W.Frag)(C:Addr)(f:Str):Prop:=PySem.W.findIn K (.ref C) f=some none
theorem cJ.taker{K:PySem.W.Frag}{C:Addr}{f:Str}(n:cJ K C f):PySem.W.takerIn K C f=some none:=by
 unfold PySem.W.takerIn
 rw[show PySem.W.findIn K (.ref C) f=some none from n]
 rfl
structure Meth(K:PySem.W.Frag)(C:Addr)(m:Str)(f:Addr):Prop where
 at_:PySem.W.findIn K (.ref C) m=some (some (.ref f))
 fn:PySem.W.isFn K (.ref f)=true
 kp:PySem.W.keepIn K (.ref f)=true
section
variable {X:Cx}{pins:List (Addr×Obj)}{σ:St}{H:Hp}{s:Shared}{a C dx:Addr}{fs:List (Str×V)}{f:Str}{v:V}{A:Around}{E:Value→Shared→Prop}
theorem JF{b:Bool}{Q:Value→Shared→Prop}(I:Inv X pins σ H s)(e:H a=some (.ins C dx fs))(c:Cls X.K C)(n:cJ X.K C f)(l:fs.lookup f=some v)
  (h:∀u s',Inv X pins σ H s'→RelV v u→Q u s'):wpAny (model X.prog X.w) A (getAttr (.ref a) f b) Q E s:=by
 obtain⟨mA,O,r,_,_,_⟩:=Ov I.hok e
 obtain⟨u,hu,ru⟩:=zb.some_of (v:=v) (o:=mA f) (by rw[← l];exact r f)
 exact get_map I.kIn O (c.get f) c.hd n hu (YG ru) (h u _ (I.tok _) ru)
theorem Dh{m:Str}{g:Addr}{pl:Sem Bool}{Q:Value×List Value→Shared→Prop}(I:Inv X pins σ H s)(e:H a=some (.ins C dx fs))(c:Cls X.K C)(k:Meth X.K C m g)(l:fs.lookup m=none)
  (h:Q (.ref g,[.ref a]) s):wpAny (model X.prog X.w) A (getMethod (.ref a) m pl) Q E s:=by
 obtain⟨mA,O,r,_,_,_⟩:=Ov I.hok e
 have hn:mA m=none:=zb.none_of (by rw[← l];exact r m)
 exact aao I.kIn O (c.get m) k.at_ k.fn hn h
theorem J1{y:V}{u:Value}{Q:Unit→Shared→Prop}(I:Inv X pins σ H s)(e:H a=some (.ins C dx fs))(c:Cls X.K C)(n:cJ X.K C f)(hl:fs.length<1000)(ry:RelV y u)
  (h:∀s',Inv X pins σ (upd H a (.ins C dx (bK f y fs))) s'→Q () s'):wpAny (model X.prog X.w) A (setAttr (.ref a) f u) Q E s:=by
 obtain⟨mA,O,r,wi,_,ho⟩:=Ov I.hok e
 have hz:(fs.map (·.1)).length≤sizeLine:=by rw[List.length_map,sizeLine_eq];omega
 refine abl I.kIn O c.sa c.po n.taker c.hd wi hz fun h' O' sb=>h _ ?_
 have hd:∃o,h'.get? dx=some o:=let ⟨o,_,_,e',_⟩:=O'.ns;⟨o,e'⟩
 refine I.write (x:=a) (e:=dx) (by rw[e];exact True.intro) (.inr ho) (fun b q hb z=>(sb.2 b hb).trans z) hd ?_
 refine⟨by rw[aO O.ne];exact ho,?_,O.ne,O'.obj,_,O'.ns,fun g=>?_,fun g hg=>?_⟩
 ·have:=HB f y fs;omega
 ·show zb ((bK f y fs).lookup g) (if g=f then some u else mA g)
  rw[pq]
  by_cases q:g=f
  ·rw[if_pos q,if_pos q];exact ry
  ·rw[if_neg q,if_neg q];exact r g
 ·by_cases q:g=f
  ·rw[q];exact(Gw f y fs).1
  ·refine(Gw f y fs).2 g (wi g fun z=>hg ?_)
   show(if g=f then some u else mA g)=none
   rw[if_neg q];exact z
theorem Inv.made(I:Inv X pins σ H s):Inv X pins σ (upd (upd H s.heap.objs.size (.own (s.heap.objs.size+1))) (s.heap.objs.size+1) (.ins C s.heap.objs.size []))
  {s with heap:=(s.heap.push PySem.W.emptyDict).push (PySem.W.instObj C s.heap.objs.size)}:=by
 have e1:(s.heap.push PySem.W.emptyDict).get? s.heap.objs.size=some PySem.W.emptyDict:=Heap.get?_push_size s.heap rfl
 have e2:((s.heap.push PySem.W.emptyDict).push (PySem.W.instObj C s.heap.objs.size)).get? (s.heap.objs.size+1)=some (PySem.W.instObj C s.heap.objs.size):=by
  have:=Heap.get?_push_size (s.heap.push PySem.W.emptyDict) (o:=PySem.W.instObj C s.heap.objs.size) rfl
  rwa [Heap.size_push]at this
 have e3:(s.heap.push PySem.W.emptyDict).Ns s.heap.objs.size (fun _=>none):=⟨PySem.W.emptyDict,#[],_,e1,rfl,(fun e he=>absurd he (by simp)),fun _=>rfl⟩
 have I1:=I.laid (a:=s.heap.objs.size) (o:=.own (s.heap.objs.size+1)) (h':=s.heap.push PySem.W.emptyDict) (t':=s.toks) (fun b u q=>Heap.get?_push_of_some _ q) (Nat.le_refl _) ⟨_,e1⟩
 refine I1.laid (a:=s.heap.objs.size+1) (o:=.ins C s.heap.objs.size []) (t':=s.toks) (fun b u q=>Heap.get?_push_of_some _ q) (Nat.le_of_eq (Heap.size_push _ _)) ?_
 have ne:s.heap.objs.size≠s.heap.objs.size+1:=Nat.ne_of_lt (Nat.lt_succ_self _)
 refine⟨by rw[aO ne,aX],Nat.zero_le _,ne,e2,fun _=>none,(Heap.Ns1.of_empty e3).at fun o q=>Heap.get?_push_of_some _ q,fun _=>True.intro,fun y hy=>absurd rfl hy⟩
theorem abd{prog:Program}{w:World}{env:Env}{e:Expr}{f:Str}{pos:Pos}{s:Shared}{Q:Value→Shared→Prop}(hb:attributeBase e f env (eval e env)=eval e env)
  (h:wpAny (model prog w) A (eval e env) (fun o s₁=>wpAny (model prog w) A (getAttr o f true) Q E s₁) E s):wpAny (model prog w) A (eval (.Attribute e f pos) env) Q E s :=
 Attribute_any_ h (by rw[arm_eval_Attribute,hb])
end
def j4(K:PySem.W.Frag)(ta:TE)(f:Str):TE:=fun σ H Q=>ta σ H fun x H1=>∃a C dx fs v,x=.ref a∧H1 a=some (.ins C dx fs)∧Cls K C∧cJ K C f∧fs.lookup f=some v∧Q v H1
def ac5(K:PySem.W.Frag)(ta tv:TE)(f:Str):TS:=fun D σ H=>tv σ H fun y H1=>ta σ H1 fun x H2=>∃a C dx fs,x=.ref a∧H2 a=some (.ins C dx fs)∧Cls K C∧cJ K C f∧fs.length<1000 ∧
 D.nx σ (upd H2 a (.ins C dx (bK f y fs)))
def adW(X:Cx)(op:Operator)(rd:V→V→Hp→VK→Prop):Prop :=
 ∀(pins:List (Addr×Obj)) (s:Shared) (σ:St) (H:Hp) (x y:V) (u v:Value) (Q:VK),Inv X pins σ H s→RelV x u→RelV y v→rd x y H Q→wpAny (model X.prog X.w) X.A (inplaceOp op u v) (EP X pins σ Q) X.xe s
def WQ(K:PySem.W.Frag)(ta tv:TE)(rd:V→V→Hp→VK→Prop)(f:Str):TS:=fun D σ H=>ta σ H fun x H1=>∃a C dx fs v,x=.ref a∧H1 a=some (.ins C dx fs)∧Cls K C∧cJ K C f∧fs.lookup f=some v ∧
 tv σ H1 fun y H2=>rd v y H2 fun z H3=>∃dx' fs',H3 a=some (.ins C dx' fs')∧fs'.length<1000∧D.nx σ (upd H3 a (.ins C dx' (bK f z fs')))
section
variable {X:Cx}{o e value:Expr}{f:Str}{pos pos' tpos:Pos}{ta tv:TE}
theorem adw(he:PE X e ta)(hb:attributeBase e f X.env (eval e X.env)=eval e X.env):PE X (.Attribute e f pos) (j4 X.K ta f):=by
 intro pins s σ H Q I h
 refine abd hb (thn (he pins s σ H _ I h) fun u s1 ⟨x,H1,I1,rx,a,C,dx,fs,v,ex,ea,c,n,l,q⟩=>?_)
 subst ex
 obtain rfl:u=Value.ref a:=rx
 exact JF I1 ea c n l fun u' s2 I2 ru=>⟨v,H1,I2,ru,q⟩
theorem bF(ha:PE X o ta)(hv:PE X value tv)(hs:swapsWith value (some (.Attribute o f pos')) pos.line X.env=pure false):PS X (.Assign [.Attribute o f pos'] value pos) (ac5 X.K ta tv f):=by
 intro pins s σ H D I h
 refine plainObj_wpAny_Assign_Attribute (thn (hv pins s σ H _ I h) fun u s1 ⟨y,H1,I1,ry,q⟩=>thn (ha pins s1 σ H1 _ I1 q) fun ov s2 ⟨x,H2,I2,rx,a,C,dx,fs,ex,ea,c,n,l,q2⟩=>?_) hs
 subst ex
 obtain rfl:ov=Value.ref a:=rx
 exact J1 I2 ea c n l ry fun s3 I3=>⟨σ,_,I3,q2⟩
theorem uE{op:Operator}{rd:V→V→Hp→VK→Prop}(ha:PE X o ta)(hv:PE X value tv)(hop:adW X op rd):PS X (.AugAssign (.Attribute o f tpos) op value pos) (WQ X.K ta tv rd f):=by
 intro pins s σ H D I h
 refine wpAny_AugAssign_AttributeAny (thn (ha pins s σ H _ I h) fun ov s1 ⟨x,H1,I1,rx,a,C,dx,fs,v,ex,ea,c,n,l,q⟩=>?_)
 subst ex
 obtain rfl:ov=Value.ref a:=rx
 refine JF I1 ea c n l fun u s2 I2 ru=>thn (hv pins s2 σ H1 _ I2 q) fun w3 s3 ⟨y,H2,I3,ry,q3⟩=>thn (hop pins s3 σ H2 v y u w3 _ I3 ru ry q3) fun w4 s4 ⟨z,H3,I4,rz,dx',fs',ea',l',q4⟩=>?_
 exact J1 I4 ea' c n l' rz fun s5 I5=>⟨σ,_,I5,q4⟩
def adS:V→V→Hp→VK→Prop:=fun x y H Q=>∃i j,x=.int i∧y=.int j∧Q (.int (i+j)) H
theorem G4:adW X .Add adS:=by
 rintro pins s σ H x y u v Q I rx ry ⟨i,j,rfl,rfl,q⟩
 obtain⟨t,rfl⟩:=(show ∃t,u=Value.int i t from rx)
 obtain⟨t',rfl⟩:=(show ∃t',v=Value.int j t' from ry)
 exact PyProof.Rows.iadd_int ⟨.int (i+j),H,I.tok _,⟨_,rfl⟩,q⟩
theorem ab_{pl:Sem Bool}{m:Str}{apos:Pos}{args:List Expr}{pins:List (Addr×Obj)}{s:Shared}{σ:St}{H:Hp}{Q:Value→Shared→Prop}{te:TE}(he:PE X e te)(I:Inv X pins σ H s)
  (h:te σ H fun x H1=>∃a C dx fs g,x=.ref a∧H1 a=some (.ins C dx fs)∧Cls X.K C∧Meth X.K C m g∧fs.lookup m=none ∧
   ∀s1,Inv X pins σ H1 s1→wpAny (model X.prog X.w) X.A (callWith pos (.ref g) [.ref a] (backTo pos (starEach args X.env)) (backToKw pos (keywordEach [] X.env))) Q X.xe s1)
  (ht:eval (.Call (.Attribute e m apos) args [] pos) X.env=(do
   let ov ← eval e X.env
   standAt apos.atName
   let (f,first) ← holding [ov] (getMethod ov m pl)
   callWith pos f first (backTo pos (starEach args X.env)) (backToKw pos (keywordEach [] X.env)))) :
  wpAny (model X.prog X.w) X.A (eval (.Call (.Attribute e m apos) args [] pos) X.env) Q X.xe s:=by
 refine PySem.W.methodCall_KW (pl:=pl) (thn (he pins s σ H _ I h) fun u s1 ⟨x,H1,I1,rx,a,C,dx,fs,g,ex,ea,c,k,l,q⟩=>?_) ht
 subst ex
 obtain rfl:u=Value.ref a:=rx
 exact Dh I1 ea c k l (q s1 I1)
end
end L2
namespace L2
open PySem PySem.Spec PyProof.Rows
structure jF(k:Nat)(A:Around):Prop where
 hd:A.handled=none
 dp:A.depth+3 * k+5<recursionLimit
 un:A.units+16 * k+200<cLine
theorem jF.mono{j k:Nat}{A:Around}(r:jF k A)(h:j≤k):jF j A:=⟨r.hd,by have:=r.dp;omega,by have:=r.un;omega⟩
theorem jF.deeper{k:Nat}{A:Around}(r:jF (k+1) A)(env:Env):jF k (A.deeper env) :=
 ⟨r.hd,by have:=r.dp;show A.depth+1+3 * k+5<_;omega,by have:=r.un;show A.units+3+16 * k+200<_;omega⟩
theorem jF.in1{k:Nat}{A:Around}(r:jF (k+1) A):jF k A.in1 :=
 ⟨r.hd,by have:=r.dp;show A.depth+3 * k+5<_;omega,by have:=r.un;show A.units+1+16 * k+200<_;omega⟩
theorem UL{A:Around}{C:Addr}{us:List Value}{kw:List (Str×Value)}:(A.under (.builtin "type.__call__" ⟨.ref C::us,kw⟩)).depth=A.depth+1:=by
 first | rfl | simp[Around.under,Code.weight,Code.isCreation,Code.isGuard,Code.isCaller,Code.frames,Code.isFrame,guardIds]
theorem Vu{A:Around}{C:Addr}{us:List Value}{kw:List (Str×Value)}:(A.under (.builtin "type.__call__" ⟨.ref C::us,kw⟩)).units=A.units+1:=by
 first | rfl | simp[Around.under,Code.cUnits,Code.frames,Code.isFrame]
theorem jF.make{k:Nat}{A:Around}(r:jF (k+1) A)(C:Addr)(us:List Value)(kw:List (Str×Value)):jF k (A.under (.builtin "type.__call__" ⟨.ref C::us,kw⟩)) :=
 ⟨r.hd,by have:=r.dp;rw[UL];omega,by have:=r.un;rw[Vu];omega⟩
theorem jF.depth{k:Nat}{A:Around}(r:jF k A):A.depth<recursionLimit:=by have:=r.dp;omega
theorem jF.units{k:Nat}{A:Around}(r:jF k A):A.units+64<cLine:=by have:=r.un;omega
theorem jF.Z1{k:Nat}{A:Around}(r:jF k A):A.units<cLine:=by have:=r.un;omega
def eV:TA:=fun _ H Q=>Q [] H
def bw(ta:TE)(tr:TA):TA:=fun σ H Q=>ta σ H fun x H1=>tr σ H1 fun xs H2=>Q (x::xs) H2
section
variable {X:Cx}{e:Expr}{es:List Expr}{te:TE}{t:TA}{pos:Pos}
theorem aq:PA X [] eV:=fun _ _ _ _ H Q I h=>Calls.spliced_nil ⟨[],H,I,.nil,h⟩
theorem aj(ha:PE X e te)(hr:PA X es t)(hs:starEach (e::es) X.env=(false,eval e X.env)::starEach es X.env:=by rfl):PA X (e::es) (bw te t):=by
 intro pos pins s σ H Q I h
 rw[hs]
 show wpAny _ _ (spliced ((false,eval e X.env)::backTo pos (starEach es X.env))) _ _ s
 refine Calls.spliced_cons (thn (ha pins s σ H _ I h) fun u s1 ⟨x,H1,I1,r1,q1⟩=>?_)
 exact thn (hr pos pins s1 σ H1 _ I1 q1) fun us s2 ⟨xs,H2,I2,r2,q2⟩=>⟨x::xs,H2,I2,.cons r1 r2,q2⟩
def adD(t:TA):TE:=fun σ H Q=>t σ H fun xs H1=>xs.length≤sizeLine∧∀p,H1 p=none→Q (.ref p) (upd H1 p (.tup xs))
def Y7(t:TA):TE:=fun σ H Q=>t σ H fun xs H1=>xs.length≤sizeLine∧∀p,H1 p=none→Q (.ref p) (upd H1 p (.lst xs))
theorem U9{x1}(h:PA X es t):PE X (.Tuple es x1 pos) (adD t):=by
 intro pins s σ H Q I hq
 refine wpAny_Tuple_spliced (thn (h pos pins s σ H _ I hq) fun us s1 ⟨xs,H1,I1,r,z,q⟩=>⟨by rw[← r.length];exact z,?_⟩)
 have hf:H1 s1.heap.objs.size=none:=I1.hok.fresh (Nat.le_refl _)
 refine⟨.ref s1.heap.objs.size,upd H1 s1.heap.objs.size (.tup xs),I1.laid (t':=s1.toks) (fun b u e=>Heap.get?_push_of_some _ e) (Nat.le_refl _) ?_,rfl,q _ hf⟩
 exact⟨z,us,r,⟨_,Heap.get?_push_size _ rfl,rfl,_,rfl⟩⟩
theorem bc(h:PA X es t):PE X (.List es pos) (Y7 t):=by
 intro pins s σ H Q I hq
 refine wpAny_List_spliced (thn (h pos pins s σ H _ I hq) fun us s1 ⟨xs,H1,I1,r,z,q⟩=>⟨by rw[← r.length];exact z,?_⟩)
 have hf:H1 s1.heap.objs.size=none:=I1.hok.fresh (Nat.le_refl _)
 refine⟨.ref s1.heap.objs.size,upd H1 s1.heap.objs.size (.lst xs),I1.laid (t':=s1.toks) (fun b u e=>Heap.get?_push_of_some _ e) (Nat.le_refl _) ?_,rfl,q _ hf⟩
 exact⟨z,us,0,r,Heap.get?_push_size _ rfl⟩
end
abbrev Sp:=List V→Hp→VK→XK→Prop
abbrev CXT:=List Env→Hp→Shared→XK→Value→Shared→Prop
structure Up(P:Program)(w:World)(K:PySem.W.Frag)(mg:Str→Option Value)(base:Heap)(A:Around)(outer:List Env)(s:Shared)(H:Hp):Prop where
 frames:A.frames=some outer
 mod:Mod K mg base
 bs:∀b o,base.get? b=some o→s.heap.get? b=some o∧H b=none
 bsz:base.objs.size≤s.heap.objs.size
 DX:s.heap.FunFrames base outer
 frf:∀b∈frs outer,H b=none
 hok:HOk P w H s.heap
 bare:AllBare s.gens
def CE(outer:List Env)(P:Program)(w:World)(H:Hp)(s:Shared)(Q:VK)(u:Value)(s':Shared):Prop :=
 ∃v H',s'.os=s.os∧AllBare s'.gens∧Un (frs outer) [] H H' s.heap s'.heap∧HOk P w H' s'.heap∧RelV v u∧Q v H'
def CR(CX:CXT)(outer:List Env)(P:Program)(w:World)(H:Hp)(s:Shared)(Q:VK)(E:XK)(r:Result)(s':Shared):Prop :=
 match r with
 |.ok (.ret u)=>CE outer P w H s Q u s'
 |.ok _=>False
 |.error e=>CX outer H s E e s'
structure bG(P:Program)(w:World)(K:PySem.W.Frag)(mg:Str→Option Value)(base:Heap)(CX:CXT)(k:Nat)(f:Addr)(fd:FuncData)(ps:List Str)(sp:Sp):Prop where
 len:∀vs H Q E,sp vs H Q E→vs.length=ps.length
 run:∀(A:Around) (outer:List Env) (s:Shared) (H:Hp) (args:Args) (us:List Value) (vs:List V) (Q:VK) (E:XK),jF k A→Up P w K mg base A outer s H→BindsTo s fd args (ps.zip us)→Vals vs us→sp vs H Q E →
  codeAny (model P w) A (.call (.ref f) args) (CR CX outer P w H s Q E) s
theorem Up.make{P:Program}{w:World}{K:PySem.W.Frag}{mg:Str→Option Value}{base:Heap}{A:Around}{outer:List Env}{s:Shared}{H:Hp}(e:Up P w K mg base A outer s H)(C:Addr)(us:List Value)(kw:List (Str×Value)) :
  Up P w K mg base (A.under (.builtin "type.__call__" ⟨.ref C::us,kw⟩)) outer s H:=⟨by first | exact e.frames | (simpa [Around.under,Code.envs,Code.isFrame,pushEnvs]using e.frames),e.mod,e.bs,e.bsz,e.DX,e.frf,e.hok,e.bare⟩
section
variable {X:Cx}{pins:List (Addr×Obj)}{σ:St}{H:Hp}{s s':Shared}
theorem Inv.env0(I:Inv X pins σ H s):Up X.prog X.w X.K X.mg X.base X.A X.stack s H :=
 ⟨I.ok.frames,I.ok.mod,I.bs,Nat.le_trans I.ok.bsz I.sz,I.stack,I.Ph,I.hok,I.bare⟩
theorem Inv.after{Q:VK}{u:Value}(I:Inv X pins σ H s)(h:CE X.stack X.prog X.w H s Q u s'):EP X pins σ Q u s':=by
 obtain⟨v,H',os,bare,un,hok,r,q⟩:=h
 obtain⟨hh,g,d,t,os'⟩:=s'
 obtain rfl:os'=s.os:=os
 exact⟨v,H',I.call (h':=hh) (g':=g) (d':=d) (t':=t) (ch:=[]) un hok bare (fun b z=>absurd z (by simp)),r,q⟩
end
def fG(sp:Sp)(dvs:List V)(E:XK)(t:TA):TE:=fun σ H Q=>t σ H fun vs H1=>sp (vs++dvs) H1 Q E
def Nt(C:Addr)(m:Str)(sp:Sp)(dvs:List V)(E:XK)(ta:TE)(t:TA):TE:=fun σ H Q=>ta σ H fun x H1=>∃a dx fs,x=.ref a∧H1 a=some (.ins C dx fs)∧fs.lookup m=none ∧
 t σ H1 fun vs H2=>sp (x::(vs++dvs)) H2 Q E
def Ny(C:Addr)(sp:Sp)(dvs:List V)(E:XK)(t:TA):TE:=fun σ H Q=>t σ H fun vs H1=>∀x dx,H1 x=none→H1 dx=none→dx≠x →
 sp (.ref x::(vs++dvs)) (upd (upd H1 dx (.own x)) x (.ins C dx [])) (fun v H2=>v=.non∧Q (.ref x) H2) E
def Binds(K:PySem.W.Frag)(fd:FuncData)(ps:List Str)(ds:List Value):Prop :=
 ∀(s:Shared) (us:List Value),K.In s.heap→(us++ds).length=ps.length→BindsTo s fd ⟨us,[]⟩ (ps.zip (us++ds))
theorem Binds.all{K:PySem.W.Frag}{fd:FuncData}{ps:List Str}(h:∀us:List Value,us.length=ps.length→bindArgs fd ⟨us,[]⟩=pure (ps.zip us)):Binds K fd ps []:=fun s us _ hl=>by
 rw[List.append_nil]at hl ⊢
 exact .of_eq (h us hl)
def Passes(CX:CXT)(X:Cx)(E:XK):Prop:=∀(pins:List (Addr×Obj)) (σ:St) (H:Hp) (s:Shared) (e:Value) (s':Shared),Inv X pins σ H s→CX X.stack H s E e s'→X.xe e s'
section
variable {X:Cx}{CX:CXT}{k:Nat}{f C:Addr}{fd:FuncData}{ps:List Str}{sp:Sp}{dvs:List V}{ds:List Value}{E:XK}{x m:Str}{p pos apos:Pos}{e o:Expr}{es:List Expr}{ta:TE}{t:TA}
theorem U7{pins:List (Addr×Obj)}{σ:St}{H:Hp}{s:Shared}{Q:VK}{us:List Value}{vs:List V}(F:bG X.prog X.w X.K X.mg X.base CX k f fd ps sp)(hr:jF k X.A)(hb:Binds X.K fd ps ds)(hd:Vals dvs ds)(hx:Passes CX X E)
  (I:Inv X pins σ H s) (r:Vals vs us) (h:sp (vs++dvs) H Q E):wpAny (model X.prog X.w) X.A (call (.ref f) us) (EP X pins σ Q) X.xe s:=by
 have r2:Vals (vs++dvs) (us++ds):=r.append hd
 have hl:(us++ds).length=ps.length:=by rw[← r2.length];exact F.len _ _ _ _ h
 refine wpAny_call (codeAny_mono (F.run X.A X.stack s H ⟨us,[]⟩ (us++ds) (vs++dvs) Q E hr I.env0 (hb s us I.kIn hl) r2 h) fun r s' hq=>?_)
 cases r with
 |error e=>exact hx pins σ H s e s' I hq
 |ok fl =>
  cases fl with
  |ret u=>exact I.after hq
  |next=>exact False.elim hq
  |brk=>exact False.elim hq
  |cont=>exact False.elim hq
theorem abx(F:bG X.prog X.w X.K X.mg X.base CX k f fd ps sp)(hr:jF k X.A)(hg:Gl X x)(hm:X.mg x=some (.ref f))(hk:PySem.W.keepIn X.K (.ref f)=true)(hb:Binds X.K fd ps ds)(hd:Vals dvs ds)(hx:Passes CX X E)
  (ha:PA X (e::es) t) (hdb:(x==("__debug__" : Str))=false:=by decide) (he:starEach (e::es) X.env=(false,eval e X.env)::starEach es X.env:=by rfl) (hpl:(backTo pos (starEach es X.env)).any (·.1)=false:=by rfl) :
  PE X (.Call (.Name x p) (e::es) [] pos) (fG sp dvs E t):=by
 intro pins s σ H Q I h
 refine wpAny_Call_Name_kw (Im I hg hm ?_ hdb)
 refine PySem.W.callWith_K (h₀:=X.base) I.ok.mod.kin hk (thn (ha pos pins s σ H _ I h) fun us s1 ⟨vs,H1,I1,r,q⟩=>⟨I1.kIn,?_⟩) he hpl
 exact U7 F hr hb hd hx I1 r q
theorem ab0{pl:Sem Bool}(he:PE X o ta)(c:Cls X.K C)(hm:Meth X.K C m f)(F:bG X.prog X.w X.K X.mg X.base CX k f fd ps sp)(hr:jF k X.A)(hb:Binds X.K fd ps ds)(hd:Vals dvs ds)(hx:Passes CX X E)(ha:PA X (e::es) t)
  (hst:starEach (e::es) X.env=(false,eval e X.env)::starEach es X.env:=by rfl) (hpl:(backTo pos (starEach es X.env)).any (·.1)=false:=by rfl)
  (ht:eval (.Call (.Attribute o m apos) (e::es) [] pos) X.env=(do
   let ov ← eval o X.env
   standAt apos.atName
   let (f,first) ← holding [ov] (getMethod ov m pl)
   callWith pos f first (backTo pos (starEach (e::es) X.env)) (backToKw pos (keywordEach [] X.env))):=by rfl) :
  PE X (.Call (.Attribute o m apos) (e::es) [] pos) (Nt C m sp dvs E ta t):=by
 intro pins s σ H Q I h
 refine PySem.W.methodCall_KW (pl:=pl) (thn (he pins s σ H _ I h) fun u s1 ⟨x,H1,I1,rx,a,dx,fs,ex,ea,l,q⟩=>?_) ht
 subst ex
 obtain rfl:u=Value.ref a:=rx
 refine Dh I1 ea c hm l ?_
 refine PySem.W.callWith_K (first:=[.ref a]) (h₀:=X.base) I.ok.mod.kin hm.kp (thn (ha pos pins s1 σ H1 _ I1 q) fun us s2 ⟨vs,H2,I2,r,q2⟩=>⟨I2.kIn,?_⟩) hst hpl
 exact U7 (us:=.ref a::us) (vs:=.ref a::vs) F hr hb hd hx I2 (.cons rfl r) q2
theorem Zw{pl:Sem Bool}(he:PE X o ta)(c:Cls X.K C)(hm:Meth X.K C m f)(F:bG X.prog X.w X.K X.mg X.base CX k f fd ps sp)(hr:jF k X.A)(hb:Binds X.K fd ps ds)(hd:Vals dvs ds)(hx:Passes CX X E)
  (ht:eval (.Call (.Attribute o m apos) [] [] pos) X.env=(do
   let ov ← eval o X.env
   standAt apos.atName
   let (f,first) ← holding [ov] (getMethod ov m pl)
   callWith pos f first (backTo pos (starEach [] X.env)) (backToKw pos (keywordEach [] X.env))):=by rfl) :
  PE X (.Call (.Attribute o m apos) [] [] pos) (Nt C m sp dvs E ta eV):=by
 intro pins s σ H Q I h
 refine PySem.W.methodCall_KW (pl:=pl) (thn (he pins s σ H _ I h) fun u s1 ⟨x,H1,I1,rx,a,dx,fs,ex,ea,l,q⟩=>?_) ht
 subst ex
 obtain rfl:u=Value.ref a:=rx
 refine Dh I1 ea c hm l ?_
 exact PySem.W.callWith_K0 (first:=[.ref a]) I1.kIn hm.kp (U7 (us:=[.ref a]) (vs:=[.ref a]) F hr hb hd hx I1 (.cons rfl .nil) q)
structure Mk(K:PySem.W.Frag)(C f:Addr):Prop where
 makes:PySem.W.makesIn K C=true
 init:PySem.W.findIn K (.ref C) "__init__" = some (some (.ref f))
 fn:PySem.W.isFn K (.ref f)=true
 kp:PySem.W.keepIn K (.ref C)=true
theorem SX{pins:List (Addr×Obj)}{σ:St}{H:Hp}{s:Shared}{Q:VK}{us:List Value}{vs:List V}(M:Mk X.K C f)(F:bG X.prog X.w X.K X.mg X.base CX k f fd ps sp)(hr:jF (k+1) X.A)(hb:Binds X.K fd ps ds)(hd:Vals dvs ds)
  (hx:Passes CX X E) (I:Inv X pins σ H s) (r:Vals vs us)
  (h:∀x dx,H x=none→H dx=none→dx≠x→sp (.ref x::(vs++dvs)) (upd (upd H dx (.own x)) x (.ins C dx [])) (fun v H2=>v=.non∧Q (.ref x) H2) E) :
  wpAny (model X.prog X.w) X.A (call (.ref C) us) (EP X pins σ Q) X.xe s:=by
 have hq:=h (s.heap.objs.size+1) s.heap.objs.size (I.hok.fresh (Nat.le_succ _)) (I.hok.fresh (Nat.le_refl _)) (Nat.ne_of_lt (Nat.lt_succ_self _))
 have I2:=Inv.made (C:=C) I
 have r2:Vals (V.ref (s.heap.objs.size+1)::(vs++dvs)) (Value.ref (s.heap.objs.size+1)::(us++ds)):=.cons rfl (r.append hd)
 have hl:(Value.ref (s.heap.objs.size+1)::us++ds).length=ps.length:=by
  have e:=r2.length
  rw[F.len _ _ _ _ hq]at e
  exact e.symm
 refine wpAny_call (Z9 (f:=f) I.kIn M.makes M.init (beq_iff_eq.mp M.fn) (codeAny_mono (F.run _ X.stack _ _ ⟨Value.ref (s.heap.objs.size+1)::us,[]⟩ (Value.ref (s.heap.objs.size+1)::(us++ds)) _ _ E (hr.make C us [])
  (I2.env0.make C us []) (hb _ (Value.ref (s.heap.objs.size+1)::us) I2.kIn hl) r2 hq) fun r s' hq'=>?_))
 cases r with
 |error e=>exact hx pins σ _ _ e s' I2 hq'
 |ok fl =>
  cases fl with
  |ret u =>
   obtain⟨v,H',I3,rv,ev,q3⟩:=I2.after hq'
   subst ev
   exact⟨rv,⟨V.ref (s.heap.objs.size+1),H',I3,rfl,q3⟩⟩
  |next=>exact False.elim hq'
  |brk=>exact False.elim hq'
  |cont=>exact False.elim hq'
theorem abk(M:Mk X.K C f)(F:bG X.prog X.w X.K X.mg X.base CX k f fd ps sp)(hr:jF (k+1) X.A)(hg:Gl X x)(hm:X.mg x=some (.ref C))(hb:Binds X.K fd ps ds)(hd:Vals dvs ds)(hx:Passes CX X E)
  (ha:PA X (e::es) t) (hdb:(x==("__debug__" : Str))=false:=by decide) (he:starEach (e::es) X.env=(false,eval e X.env)::starEach es X.env:=by rfl) (hpl:(backTo pos (starEach es X.env)).any (·.1)=false:=by rfl) :
  PE X (.Call (.Name x p) (e::es) [] pos) (Ny C sp dvs E t):=by
 intro pins s σ H Q I h
 refine wpAny_Call_Name_kw (Im I hg hm ?_ hdb)
 refine PySem.W.callWith_K (h₀:=X.base) I.ok.mod.kin M.kp (thn (ha pos pins s σ H _ I h) fun us s1 ⟨vs,H1,I1,r,q⟩=>⟨I1.kIn,?_⟩) he hpl
 exact SX M F hr hb hd hx I1 r q
theorem ZQ(M:Mk X.K C f)(F:bG X.prog X.w X.K X.mg X.base CX k f fd ps sp)(hr:jF (k+1) X.A)(hg:Gl X x)(hm:X.mg x=some (.ref C))(hb:Binds X.K fd ps ds)(hd:Vals dvs ds)(hx:Passes CX X E)
  (hdb:(x==("__debug__" : Str))=false:=by decide):PE X (.Call (.Name x p) [] [] pos) (Ny C sp dvs E eV):=by
 intro pins s σ H Q I h
 refine wpAny_Call_Name_kw (Im I hg hm ?_ hdb)
 exact PySem.W.callWith_K0 I.kIn M.kp (SX (us:=[]) M F hr hb hd hx I .nil h)
end
def PK(X:Cx)(kws:List Keyword)(t:TA):Prop :=
 ∀(pos:Pos) (pins:List (Addr×Obj)) (s:Shared) (σ:St) (H:Hp) (Q:List V→Hp→Prop),Inv X pins σ H s→t σ H Q→wpAny (model X.prog X.w) X.A (evalAll ((backToKw pos (keywordEach kws X.env)).map (·.2))) (AP X pins σ Q) X.xe s
section
variable {X:Cx}{CX:CXT}{k:Nat}{f C:Addr}{fd:FuncData}{ps ks:List Str}{sp:Sp}{E:XK}{x m:Str}{p pos apos kpos:Pos}{e o:Expr}{es:List Expr}{kws:List Keyword}{te ta:TE}{t tk:TA}{nm:Option Str}
theorem Za:PK X [] eV:=fun _ _ _ _ H Q I h=>wpAny_evalAll_nil ⟨[],H,I,.nil,h⟩
theorem QX(ha:PE X e te)(hr:PK X kws t):PK X (⟨nm,e,kpos⟩::kws) (bw te t):=by
 intro pos pins s σ H Q I h
 show wpAny _ _ (evalAll ((do let v ← eval e X.env;standAt pos;pure v)::(backToKw pos (keywordEach kws X.env)).map (·.2))) _ _ s
 refine wpAny_evalAll_cons (wpAny_bind (thn (ha pins s σ H _ I h) fun u s1 ⟨x,H1,I1,r1,q1⟩=>wpAny_bind (wpAny_standAt (wpAny_pure ?_))))
 exact thn (hr pos pins s1 σ H1 _ I1 q1) fun us s2 ⟨xs,H2,I2,r2,q2⟩=>⟨x::xs,H2,I2,.cons r1 r2,q2⟩
variable {g:List Value→List Value→List Value}{gV:List V→List V→List V}
end
structure aG(N P:List Str)(sc:Scope):Prop where
 kind:sc.kind=.function
 co:sc.isCoroutine=false
 gen:sc.isGenerator=false
 nd:N.Nodup
 pre:N.take P.length=P
 par:∀x∈P,sc.names.lookup x=some .local∨sc.names.lookup x=some .cell
 acL:∀y∈sc.names,y.2≠.free
theorem Oo{kindOf:Str→Option NameKind}{x:Str}:∀{binds:List (Str×Value)} {m:Str→Option Value},(∀v,(x,v)∉binds)→bindL kindOf binds m x=m x
 |[],_,_=>rfl
 |(n,v)::r,m,h=>by
  unfold bindL
  rw[Oo fun w hw=>h w (List.mem_cons_of_mem _ hw)]
  split
  ·have:x≠n:=by rintro rfl;exact h v List.mem_cons_self
   simp[this]
  ·rfl
theorem Ob{kindOf:Str→Option NameKind}{x:Str}:∀{binds:List (Str×Value)} {m:Str→Option Value},(∀v,(x,v)∉binds)→bindC kindOf binds m x=m x
 |[],_,_=>rfl
 |(n,v)::r,m,h=>by
  unfold bindC
  rw[Ob fun w hw=>h w (List.mem_cons_of_mem _ hw)]
  split
  ·rfl
  ·have:x≠n:=by rintro rfl;exact h v List.mem_cons_self
   simp[this]
theorem Nu{kindOf:Str→Option NameKind}{x:Str}{v:Value}:∀{P:List Str} {vs:List Value} {i:Nat} {m:Str→Option Value},P.Nodup→P[i]?=some x→vs[i]?=some v→kindOf x=some .local →
  bindL kindOf (P.zip vs) m x=some v
 |[],_,_,_,_,h,_,_=>by simp at h
 |_::_,[],_,_,_,_,h,_=>by simp at h
 |p::P,w::vs,0,m,nd,h1,h2,hk=>by
  simp at h1 h2;subst h1;subst h2
  show bindL kindOf ((p,w)::P.zip vs) m p=_
  unfold bindL
  rw[Oo fun v hv=>(List.nodup_cons.mp nd).1 (List.of_mem_zip hv).1,if_pos hk]
  simp
 |p::P,w::vs,i+1,m,nd,h1,h2,hk=>by
  show bindL kindOf ((p,w)::P.zip vs) m x=_
  unfold bindL
  exact Nu (i:=i) (List.nodup_cons.mp nd).2 (by simpa using h1) (by simpa using h2) hk
theorem NT{kindOf:Str→Option NameKind}{x:Str}{v:Value}:∀{P:List Str} {vs:List Value} {i:Nat} {m:Str→Option Value},P.Nodup→P[i]?=some x→vs[i]?=some v→kindOf x≠some .local →
  bindC kindOf (P.zip vs) m x=some v
 |[],_,_,_,_,h,_,_=>by simp at h
 |_::_,[],_,_,_,_,h,_=>by simp at h
 |p::P,w::vs,0,m,nd,h1,h2,hk=>by
  simp at h1 h2;subst h1;subst h2
  show bindC kindOf ((p,w)::P.zip vs) m p=_
  unfold bindC
  rw[Ob fun v hv=>(List.nodup_cons.mp nd).1 (List.of_mem_zip hv).1,if_neg hk]
  simp
 |p::P,w::vs,i+1,m,nd,h1,h2,hk=>by
  show bindC kindOf ((p,w)::P.zip vs) m x=_
  unfold bindC
  exact NT (i:=i) (List.nodup_cons.mp nd).2 (by simpa using h1) (by simpa using h2) hk
def start(N:List Str)(vs:List V):St:=vs.map some++List.replicate (N.length - vs.length) none
def Mp(CX:CXT)(P:Program)(w:World)(K:PySem.W.Frag)(mg:Str→Option Value)(base:Heap)(N:List Str)(qual:Str)(scope:Scope)(f:Addr)(cd:Value)(A:Around)(outer:List Env)(s:Shared)(H:Hp)(E:XK):Cx where
 prog:=P
 w:=w
 K:=K
 mg:=mg
 base:=base
 A:=A.deeper (envOfC qual scope s.heap.objs.size f cd)
 N:=N
 s_0:=s
 H_0:=H
 env:=envOfC qual scope s.heap.objs.size f cd
 outer:=outer
 stack:=envOfC qual scope s.heap.objs.size f cd::outer
 ex:=[]
 calm:=true
 fn:=fun _=>true
 pn:=[]
 xe:=fun e s'=>wpAny (model P w) (A.deeper (envOfC qual scope s.heap.objs.size f cd)) (leaving (envOfC qual scope s.heap.objs.size f cd) e) (fun _ s''=>CX outer H s E e s'') (fun e' s''=>CX outer H s E e' s'') s'
theorem Sh{sc:Scope}{n:Nat}{x:Str}(h:sc.names.lookup x=some .cell):∃c,(cellsFrom n sc.names []).lookup x=some c:=by
 have q:=PySem.W.cellsFrom_some sc.names n [] (.inl h)
 exact Option.isSome_iff_exists.mp q
theorem Gu{CX:CXT}{P:Program}{w:World}{K:PySem.W.Frag}{mg:Str→Option Value}{base:Heap}{N ps:List Str}{qual:Str}{scope:Scope}{f:Addr}{cd:Value}{A:Around}{outer:List Env}{s s1:Shared}{H:Hp}{E:XK}{us:List Value}{vs:List V}
  (S:aG N ps scope) (hd:A.handled=none) (e0:Up P w K mg base A outer s H) (hl:vs.length=ps.length) (r:Vals vs us)
  (x:InCallC s s.heap.objs.size (bindL (envOfC qual scope s.heap.objs.size f cd).kindOf (ps.zip us) fun _=>none) (cellsFrom (s.heap.objs.size+1) scope.names []) (bindC (envOfC qual scope s.heap.objs.size f cd).kindOf (ps.zip us) fun _=>none) s1) :
  Inv (Mp CX P w K mg base N qual scope f cd A outer s H E) [] (start N vs) H s1:=by
 have hpl:ps.length≤N.length:=by have:=congrArg List.length S.pre;rw[List.length_take]at this;omega
 obtain⟨h1,tk,rfl,hk⟩:=x.done
 have noA:∀b:Addr,b∉(Mp CX P w K mg base N qual scope f cd A outer s H E).ex:=fun b z=>absurd (show b∈([]:List Addr)from z) (by simp)
 refine⟨⟨e0.mod,S.kind,rfl,rfl,Nat.le_refl _,fun y z c h1 h2=>?_,fun y hy=>?_,fun y c _ h=>?_,fun _=>hd,Around.frames_deeper e0.frames,.inr ⟨rfl,rfl⟩,fun b z=>absurd z (noA b),e0.bs,e0.bsz,fun b _ _=>noA b,fun b z=>absurd z (noA b),e0.DX,e0.frf⟩,
  rfl,e0.bare,Un.kept hk,⟨_,x.toInCall.ns,fun i y v h1 h2 h3=>?_⟩,fun y c h=>⟨_,x.cell y c h⟩,e0.hok.fresh (Nat.le_refl _),fun y c h=>?_,fun p hp=>absurd (show p∈([]:List (Addr×Obj))from hp) (by simp),e0.hok.kept hk,?_⟩
 ·exact name_of_addr x.apart (PySem.mem_of_lookup h1) (PySem.mem_of_lookup h2)
 ·have hy:scope.names.lookup y=some .cell∨scope.names.lookup y=some .free:=hy
  rcases hy with hy|hy
  ·exact Sh hy
  ·exact absurd rfl (S.acL _ (PySem.mem_of_lookup hy))
 ·exact Nat.le_of_lt (x.above y c (PySem.mem_of_lookup h))
 ·have hi:i<vs.length:=by
   unfold start at h2
   by_cases hi:i<vs.length
   ·exact hi
   ·rw[List.getElem?_append_right (by simpa using hi)]at h2
    rw[List.getElem?_replicate]at h2
    split at h2<;>cases h2
  have ha:vs[i]?=some v:=by
   unfold start at h2
   rw[List.getElem?_append_left (by simpa using hi),List.getElem?_map]at h2
   cases e:vs[i]? with
   |none=>rw[e]at h2;cases h2
   |some a=>rw[e]at h2;cases h2;rfl
  obtain⟨u,hu,rv⟩:=r.get ha
  have hp:ps[i]?=some y:=by
   rw[← S.pre,List.getElem?_take_of_lt (by omega)];exact h1
  have ndP:ps.Nodup:=by rw[← S.pre];exact S.nd.sublist (List.take_sublist _ _)
  refine⟨u,rv,?_⟩
  rcases S.par y (List.mem_of_getElem? hp)with k|k
  ·exact .inl ⟨k,Nu ndP hp hu k⟩
  ·obtain⟨c,e⟩:=Sh (n:=s.heap.objs.size+1) k
   refine .inr ⟨.inl k,c,e,?_⟩
   have q:=x.cell y c e
   rw[NT ndP hp hu (by show scope.names.lookup y≠_;rw[k];decide)]at q
   exact q
 ·exact e0.hok.fresh (Nat.le_of_lt (x.above y c (PySem.mem_of_lookup h)))
 ·unfold start
  show _=N.length
  rw[List.length_append,List.length_map,List.length_replicate]
  omega
theorem acq{CX:CXT}{P:Program}{w:World}{K:PySem.W.Frag}{mg:Str→Option Value}{base:Heap}{k:Nat}{f:Addr}{name qual:Str}{params:Arguments}{body:List Stmt}{scope:Scope}{dV kV doc pm cdv ct oc:Value}{an od:Option Addr}
  {osl:Array (Option Value)} {N ps:List Str} {sp:Sp} (lk:K.lookup f=some ⟨oc,od,.func (PySem.W.fnOf name qual params body scope dV kV doc pm an cdv ct),osl⟩) (hcd:PySem.W.codeIn K cdv qual=true) (S:aG N ps scope)
  (len:∀vs H Q E,sp vs H Q E→vs.length=ps.length)
  (hbody:∀(A:Around) (outer:List Env) (s:Shared) (H:Hp) (vs:List V) (Q:VK) (E:XK),jF k (A.deeper (envOfC qual scope s.heap.objs.size f cdv))→sp vs H Q E →
   ∃t,PSs (Mp CX P w K mg base N qual scope f cdv A outer s H E) body t∧t {nx:=fun _ H'=>Q .non H',rt:=Q} (start N vs) H) :
  bG P w K mg base CX (k+1) f (PySem.W.fnOf name qual params body scope dV kV doc pm an cdv ct) ps sp:=by
 refine⟨len,fun A outer s H args us vs Q E hr e0 hb r hsp=>?_⟩
 have hl:=len _ _ _ _ hsp
 have KX:K.In s.heap:=e0.mod.kin.keeps fun b o e=>(e0.bs b o e).1
 have lim:s.heap.NoLimit:=e0.mod.nolimit.keeps fun b o e=>(e0.bs b o e).1
 have hkind:∀y∈ps.zip us,scope.names.lookup y.1=some .local∨(scope.names.lookup y.1=some .cell∧((cellsFrom (s.heap.objs.size+1) scope.names []).lookup y.1).isSome=true):=fun⟨n,v⟩ hy=>by
  rcases S.par n (List.of_mem_zip hy).1 with q|q
  ·exact .inl q
  ·exact .inr ⟨q,PySem.W.cellsFrom_some _ _ _ (.inl q)⟩
 refine codeAny_call_function hr.depth (KX _ _ lk) rfl S.co S.gen rfl (PySem.W.codeRec_of KX hcd) (hb _ _ _ _ ?_)
 refine wpAny_newFunctionEnv_cells S.kind hkind fun env he s1 x=>?_
 subst he
 refine⟨lim.keeps x.toInCall.keep,codeAny_func ?_⟩
 obtain⟨t,ht,hq⟩:=hbody A outer s H vs Q E (hr.deeper _) hsp
 have I:Inv (Mp CX P w K mg base N qual scope f cdv A outer s H E) [] (start N vs) H s1:=Gu S hr.hd e0 hl r x
 refine wpAny_mono (ht [] s1 (start N vs) H _ I hq) (fun fl s' hs=>?_) fun e s' hs=>hs
 have fin:∀{σ':St} {H':Hp} {v:V} {u:Value},Inv (Mp CX P w K mg base N qual scope f cdv A outer s H E) [] σ' H' s'→RelV v u→Q v H'→CE outer P w H s Q u s' :=
  fun{σ' H' v u} J rv q=>⟨v,H',J.os,J.bare,J.base,J.hok,rv,q⟩
 cases fl with
 |ret u =>
  obtain⟨v,σ',H',J,rv,q⟩:=hs
  exact fin J rv q
 |next =>
  obtain⟨σ',H',J,q⟩:=hs
  exact fin (v:=V.non) (u:=Value.none) J rfl q
 |brk =>
  obtain⟨_,_,_,q⟩:=hs
  exact False.elim q
 |cont =>
  obtain⟨_,_,_,q⟩:=hs
  exact False.elim q
end L2
namespace L2
open PySem PySem.Spec PyProof.Rows
section
variable {X:Cx}{x:Str}{p pos:Pos}{e:Expr}{es:List Expr}{t:TA}{id T:String}{r:List V→Hp→VK→Prop}
def tCB(r:List V→Hp→VK→Prop)(t:TA):TE:=fun σ H Q=>t σ H fun vs H1=>r vs H1 Q
theorem bR(hc:yH X (.builtin id) r)(hg:Gl X x)(hm:X.mg x=none)(hv:bootBuiltins x=some (.builtin id))(ha:PA X (e::es) t)(hn:x≠"__name__":=by decide)(hdb:(x==("__debug__" : Str))=false:=by decide)
  (he:starEach (e::es) X.env=(false,eval e X.env)::starEach es X.env:=by rfl) (hpl:(backTo pos (starEach es X.env)).any (·.1)=false:=by rfl):PE X (.Call (.Name x p) (e::es) [] pos) (tCB r t):=by
 intro pins s σ H Q I h
 refine wpAny_Call_Name_kw (CK I hg hm hv ?_ hn hdb)
 exact PyProof.Rows.callWith_builtin1 (thn (ha pos pins s σ H _ I h) fun us s1 ⟨vs,H1,I1,r1,q1⟩=>hc pins s1 σ H1 vs us Q I1 r1 q1) he hpl
theorem mz(hc:yH X (.type T) r)(hg:Gl X x)(hm:X.mg x=none)(hv:bootBuiltins x=some (.type T))(ha:PA X (e::es) t)(hn:x≠"__name__":=by decide)(hdb:(x==("__debug__" : Str))=false:=by decide)
  (he:starEach (e::es) X.env=(false,eval e X.env)::starEach es X.env:=by rfl) (hpl:(backTo pos (starEach es X.env)).any (·.1)=false:=by rfl):PE X (.Call (.Name x p) (e::es) [] pos) (tCB r t):=by
 intro pins s σ H Q I h
 refine wpAny_Call_Name_kw (CK I hg hm hv ?_ hn hdb)
 exact PyProof.Rows.callWith_type1 (thn (ha pos pins s σ H _ I h) fun us s1 ⟨vs,H1,I1,r1,q1⟩=>hc pins s1 σ H1 vs us Q I1 r1 q1) he hpl
end
end L2
namespace HT
open PySem PyProof.Rows
def lexLt:List Int→List Int→Bool
 |[],[]=>false
 |[],_::_=>true
 |_::_,[]=>false
 |x::xs,y::ys=>if x=y then lexLt xs ys else decide (x<y)
theorem jz(x y:Int)(xs ys:List Int):lexLt (x::xs) (y::ys)=if x=y then lexLt xs ys else decide (x<y):=rfl
theorem Ci:lexLt [] []=false:=rfl
theorem JK(y:Int)(ys:List Int):lexLt [] (y::ys)=true:=rfl
theorem JG(x:Int)(xs:List Int):lexLt (x::xs) []=false:=rfl
theorem Z8(A:Around)(s:Shared)(a:Int)(t:Tok)(c:Int)(u:Tok):∃e,SeqAt.EqAt A s (.int a t) (.int c u) e∧(e=true↔a=c) :=
 ⟨(a==c),SeqAt.EqAt.int_int a t c u,by simp⟩
theorem Tc(A:Around)(s:Shared)(a:Int)(t:Tok)(c:Int)(u:Tok)(prog:Program)(w:World)(E:Value→Shared→Prop)(Q:Value→Shared→Prop)(h:Q (.bool (decide (a<c))) s) :
  wpAny (model prog w) A (richCompare .Lt (.int a t) (.int c u)) Q E s :=
 (PyProof.Rows.lt_int h:wpAny (model prog w) A (compareOp .Lt (.int a t) (.int c u)) Q E s)
section
open PySem.SeqAt
open PySem.AutoSeq1 (wpAny_loadPart')
open PySem.MeetsSeq PySem.MeetsSeq2 PySem.MeetsSeq3
theorem Mr(l b:Addr)(items items2:Array Value)(n n2:Nat)(dd dd2:Option Addr)(sl sl2:Array (Option Value))(ns ms:List Int)(hi:IntsAre items.toList ns)(hj:IntsAre items2.toList ms) :
  Meets (Builtin.«tuple.__lt__» ⟨[.ref l,.ref b],[]⟩)
   (fun _ R s=>s.heap.get? l=some {cls:=.type "tuple",dict:=dd,data:=.seq items n,slots:=sl}∧s.heap.get? b=some {cls:=.type "tuple",dict:=dd2,data:=.seq items2 n2,slots:=sl2} ∧
    R (.ok (.ret (.bool (lexLt ns ms)))) s) :=
 .of_wp fun prog w A R s h=>by
  obtain⟨hp,g,d,tk,os⟩:=s;obtain⟨hl,hb,h⟩:=h
  have f2:=AutoSeq1.sub_tuple_tuple
  have z1:items.size=ns.length:=by rw[← hi.length];simp
  have z2:items2.size=ms.length:=by rw[← hj.length];simp
  wp_walk using wpAny_loadPart' hl,wpAny_loadPart' hb,wpAny_forIn_list _ (fun rest b s'=>b.1=none∧s'=⟨hp,g,d,tk,os⟩∧∃(vs ws:List Value) (ns' ms':List Int),rest=vs.zip ws ∧
   IntsAre vs ns'∧IntsAre ws ms'∧ns'.length+items2.size=ms'.length+items.size∧R (.ok (.ret (.bool (lexLt ns' ms')))) ⟨hp,g,d,tk,os⟩) _
  case turn =>
   rintro⟨y,x⟩ rest b s' ⟨hb',rfl,vs,ws,ns',ms',hz,hvi,hwi,hlen,hR⟩
   cases hvi with
   |nil=>rw[List.zip_nil_left]at hz;cases hz
   |cons a t hvi' =>
    cases hwi with
    |nil=>rw[List.zip_nil_right]at hz;cases hz
    |cons c u hwi' =>
     rw[List.zip_cons_cons]at hz
     injection hz with hyx hrest
     injection hyx with hy hx
     subst hy hx
     rw[jz]at hR
     simp only[List.length_cons]at hlen
     obtain⟨e,he,hiff⟩:=Z8 A.in1 ⟨hp,g,d,tk,os⟩ a t c u
     refine wpAny_bind (he prog w _ _ ?_)
     cases e with
     |true =>
      rw[if_pos (hiff.mp rfl)]at hR
      wp_walk
      exact⟨rfl,rfl,_,_,_,_,hrest,hvi',hwi',by omega,hR⟩
     |false =>
      rw[if_neg (fun q=>absurd (hiff.mpr q) Bool.false_ne_true)]at hR
      have hri:=Tc A.in1 ⟨hp,g,d,tk,os⟩ a t c u prog w
      wp_walk using hri
      exact⟨_,rfl,by simpa using hR⟩
  case fin =>
   rintro⟨b1,b2⟩ s' ⟨hb',rfl,vs,ws,ns',ms',hz,hvi,hwi,hlen,hR⟩
   simp only at hb'
   subst hb'
   have hv:lexLt ns' ms'=decide (items.size<items2.size):=by
    cases hvi with
    |nil =>
     cases hwi with
     |nil =>
      simp only[List.length_nil]at hlen
      rw[Ci]
      exact(decide_eq_false (by omega)).symm
     |cons c u hw =>
      simp only[List.length_nil,List.length_cons]at hlen
      rw[JK]
      exact(decide_eq_true (by omega)).symm
    |cons a t hv =>
     cases hwi with
     |nil =>
      simp only[List.length_nil,List.length_cons]at hlen
      rw[JG]
      exact(decide_eq_false (by omega)).symm
     |cons c u hw =>
      rw[List.zip_cons_cons]at hz
      cases hz
   rw[hv]at hR
   wp_walk
   exact⟨_,rfl,by simpa [Builtin.Tuple.tupleCompareSizes]using hR⟩
  case h =>
   exact⟨rfl,rfl,items.toList,items2.toList,ns,ms,rfl,hi,hj,by omega,h⟩
end
section
variable {prog:Program}{w:World}{A:Around}{E:Value→Shared→Prop}{s:Shared}
theorem U5{l b:Addr}{items items2:Array Value}{ns ms:List Int}{Q:Value→Shared→Prop}(hl:IsTup s.heap l items)(hb:IsTup s.heap b items2)(hi:IntsAre items.toList ns)(hj:IntsAre items2.toList ms)
  (hu:A.units<cLine) (h:Q (.bool (lexLt ns ms)) s):wpAny (model prog w) A (compareOp .Lt (.ref l) (.ref b)) Q E s:=by
 obtain⟨⟨cls,dd,data,sl⟩,ho,hc,n,hd⟩:=id hl
 obtain⟨⟨cls2,dd2,data2,sl2⟩,ho2,hc2,n2,hd2⟩:=id hb
 simp only at hc hd hc2 hd2
 subst hc hd hc2 hd2
 exact richCompare_meets_room (op:=.Lt) ⟨_,ho,rfl⟩ ⟨_,ho2,rfl⟩ PySem.F.slot_tuple_lt PySem.F.entry_tuple_lt (PySem.F.args_tuple_lt_2 _ _) (Mr l b items items2 n n2 dd dd2 sl sl2 ns ms hi hj)
  ⟨ho,ho2,show Value.bool (lexLt ns ms)≠Value.notImplemented∧Q (.bool (lexLt ns ms)) s from⟨(fun x=>nomatch x),h⟩⟩ hu
def sIx(n d:Nat):Option Int→Nat
 |none=>d
 |some v=>if v<0 then (v+(n:Int)).toNat else min v.toNat n
theorem WK(n d k:Nat):sIx n d (some (k:Int))=min k n:=by
 show(if (k:Int)<0 then ((k:Int)+(n:Int)).toNat else min (k:Int).toNat n)=min k n
 rw[if_neg (by omega),Int.toNat_natCast]
end
end HT
namespace L2
open PySem PySem.Spec PyProof.Rows
abbrev TO:=St→Hp→(Option Int→Hp→Prop)→Prop
def PO(X:Cx)(e:Option Expr)(t:TO):Prop :=
 ∀(pins:List (Addr×Obj)) (s:Shared) (σ:St) (H:Hp) (Q:Option Int→Hp→Prop),Inv X pins σ H s→t σ H Q →
  wpAny (model X.prog X.w) X.A (evalPart e X.env) (fun u s'=>∃o H',Inv X pins σ H' s'∧IsPart u o∧Q o H') X.xe s
def Y6(t:TE):TO:=fun σ H Q=>t σ H fun x H1=>∃i,x=.int i∧Q (some i) H1
theorem intsAre_of{ns:List Int}:∀{us:List Value},Vals (ns.map V.int) us→IntsAre us ns:=by
 induction ns with
 |nil=>intro us r;rw[List.map_nil]at r;cases r;exact .nil
 |cons n ns ih =>
  intro us r
  rw[List.map_cons]at r
  cases r with
  |cons r1 r2 =>
   obtain⟨t,e⟩:=r1
   subst e
   exact .cons n t (ih r2)
section
variable {X:Cx}{e:Expr}{te:TE}{lo hi:Option Expr}{tl th:TO}{pos p2:Pos}
theorem WM(h:PE X e te):PO X (some e) (Y6 te):=by
 intro pins s σ H Q I hw
 rw[evalPart_some]
 refine thn (h pins s σ H _ I hw) fun u s1 ⟨x,H1,I1,r1,q1⟩=>?_
 obtain⟨i,rfl,q⟩:=q1
 obtain⟨t,rfl⟩:=r1
 exact⟨some i,H1,I1,.int i t,q⟩
def SlR(X:Cx)(r:V→Option Int→Option Int→Hp→VK→Prop):Prop :=
 ∀(pins:List (Addr×Obj)) (s:Shared) (σ:St) (H:Hp) (x:V) (v vl vu:Value) (lo hi:Option Int) (sl:Addr) (Q:VK),Inv X pins σ H s→RelV x v→s.heap.IsSliceOf sl vl vu .none→IsPart vl lo→IsPart vu hi→r x lo hi H Q →
  ∃T id,typeLookup (.type T) "__getitem__" = pure (some (.builtin id))∧s.TypeIs v T∧wpAny (model X.prog X.w) X.A (getItem v (.ref sl)) (EP X pins σ Q) X.xe s
def tSl(r:V→Option Int→Option Int→Hp→VK→Prop)(te:TE)(tl th:TO):TE:=fun σ H Q=>te σ H fun x H1=>tl σ H1 fun l H2=>th σ H2 fun u H3=>r x l u H3 Q
theorem aa1{r:V→Option Int→Option Int→Hp→VK→Prop}(hr:SlR X r)(he:PE X e te)(hl:PO X lo tl)(hu:PO X hi th):PE X (.Subscript e (.Slice lo hi none p2) pos) (tSl r te tl th):=by
 intro pins s σ H Q I h
 refine Subscript_ (thn (he pins s σ H _ I h) fun v s1 ⟨x,H1,I1,r1,q1⟩=>?_)
 refine wpAny_Slice (thn (hl pins s1 σ H1 _ I1 q1) fun vl s2 ⟨l,H2,I2,pl,q2⟩=>thn (hu pins s2 σ H2 _ I2 q2) fun vu s3 ⟨u,H3,I3,pu,q3⟩=>?_)
 rw[evalPart_none]
 refine wpAny_pure ?_
 have I4:Inv X pins σ H3 {s3 with heap:=s3.heap.push {cls:=.type "slice",data:=.fields #[vl,vu,.none]}}:=I3.kept (t':=s3.toks) fun b ob q=>Heap.get?_push_of_some _ q
 obtain⟨T,id,hT,ht,hg⟩:=hr pins {s3 with heap:=s3.heap.push {cls:=.type "slice",data:=.fields #[vl,vu,.none]}} σ H3 x v vl vu l u s3.heap.objs.size Q I4 r1 (Heap.IsSliceOf.new ..) pl pu q3
 show wpAny (model X.prog X.w) X.A (subscriptTail e (.Slice lo hi none p2) v (.ref s3.heap.objs.size)) (EP X pins σ Q) X.xe {s3 with heap:=s3.heap.push {cls:=.type "slice",data:=.fields #[vl,vu,.none]}}
 exact tail_any (ops:=[.ref s3.heap.objs.size,v]) ht hT hg (by with_unfolding_all rfl)
def ZP(xs:List V)(lo hi:Option Int):List V:=(xs.drop (HT.sIx xs.length 0 lo)).take (HT.sIx xs.length xs.length hi - HT.sIx xs.length 0 lo)
theorem R0(xs:List V)(lo hi:Option Int):(ZP xs lo hi).length≤xs.length:=by
 unfold ZP
 rw[List.length_take,List.length_drop]
 omega
end
end L2
namespace L2
open PySem PySem.Spec PyProof.Rows
def ixN(n:Nat)(i:Int):Option Nat:=if 0≤i then (if i<n then some i.toNat else none)else if -(n:Int)≤i then some (i+n).toNat else none
def atI{α:Type}(xs:List α)(i:Int):Option α:=(ixN xs.length i).bind fun j=>xs[j]?
theorem abD{n:Nat}{i:Int}{j:Nat}(h:ixN n i=some j):seqIndex? i n=some j∧j<n∧-(n:Int)≤i∧i<n:=by
 unfold ixN at h
 by_cases h0:0≤i
 ·rw[if_pos h0]at h
  by_cases h1:i<n
  ·rw[if_pos h1]at h
   have e:i.toNat=j:=Option.some.inj h
   exact⟨by rw[seqIndex_of h0 h1,e],by omega,by omega,h1⟩
  ·rw[if_neg h1]at h;cases h
 ·rw[if_neg h0]at h
  by_cases h1:-(n:Int)≤i
  ·rw[if_pos h1]at h
   have e:(i+n).toNat=j:=Option.some.inj h
   exact⟨by rw[seqIndex_neg (by omega) h1,e],by omega,h1,by omega⟩
  ·rw[if_neg h1]at h;cases h
theorem QC{α:Type}{xs:List α}{i:Int}{v:α}(h:atI xs i=some v):∃j,seqIndex? i xs.length=some j∧xs[j]?=some v∧j<xs.length∧-(xs.length:Int)≤i∧i<xs.length:=by
 unfold atI at h
 cases e:ixN xs.length i with
 |none=>rw[e]at h;cases h
 |some j =>
  rw[e]at h
  obtain⟨h1,h2,h3,h4⟩:=abD e
  exact⟨j,h1,h,h2,h3,h4⟩
theorem Qt{α:Type}{xs:List α}{j:Nat}{v:α}(h:xs[j]?=some v):atI xs (j:Int)=some v:=by
 have hj:j<xs.length:=(List.getElem?_eq_some_iff.mp h).1
 have e:ixN xs.length (j:Int)=some j:=by
  unfold ixN
  rw[if_pos (by omega),if_pos (by omega)];simp
 unfold atI;rw[e];exact h
def abP(b:Expr):Prop:=∀o i,subscripted b false o i=operate [o,i] (getItem o i)
def IxR(X:Cx)(r:R2):Prop :=
 ∀(value slice:Expr) (pins:List (Addr×Obj)) (s:Shared) (σ:St) (H:Hp) (x y:V) (v u:Value) (Q:VK),Inv X pins σ H s→RelV x v→RelV y u→r x y H Q →
  subscripted slice false v u=operate [v,u] (getItem v u)→wpAny (model X.prog X.w) X.A (subscriptTail value slice v u) (EP X pins σ Q) X.xe s
def MtR(X:Cx)(id:String)(r:V→List V→Hp→VK→Prop):Prop :=
 ∀(pins:List (Addr×Obj)) (s:Shared) (σ:St) (H:Hp) (x:V) (xs:List V) (v:Value) (us:List Value) (Q:VK),Inv X pins σ H s→RelV x v→Vals xs us→r x xs H Q →
  wpAny (model X.prog X.w) X.A (call (.builtin id) (v::us)) (EP X pins σ Q) X.xe s
section
variable {X:Cx}{a b:Expr}{ta tb:TE}{pos:Pos}
theorem IxR.or{r r':R2}(h:IxR X r)(h':IxR X r'):IxR X (fun x y H Q=>r x y H Q∨r' x y H Q):=by
 intro value slice pins s σ H x y v u Q I rx ry q hs
 rcases q with q|q
 ·exact h value slice pins s σ H x y v u Q I rx ry q hs
 ·exact h' value slice pins s σ H x y v u Q I rx ry q hs
theorem cZ{r:R2}(hr:IxR X r)(ha:PE X a ta)(hb:PE X b tb)(hs:abP b):PE X (.Subscript a b pos) (tOp r ta tb):=by
 intro pins s σ H Q I h
 exact Subscript_ (ac8 ha hb I h fun v u s2 x y H2 I2 rx ry q=>hr a b pins s2 σ H2 x y v u Q I2 rx ry q (hs _ _))
def adP(K:PySem.W.Frag):R2:=fun x y H Q=>∃p xs i v,x=.ref p∧y=.int i∧SqL K H p xs∧atI xs i=some v∧Q v H
def ad0(K:PySem.W.Frag):R2:=fun x y H Q=>∃p xs i v,x=.ref p∧y=.int i∧SqT K H p xs∧atI xs i=some v∧Q v H
def adV:R2:=fun x y H Q=>∃z i c,x=.str z∧y=.int i∧z.length≤sizeLine∧atI z.cps.toList i=some c∧Q (.str ⟨#[c]⟩) H
theorem abT:IxR X (adP X.K):=by
 intro value slice pins s σ H x y v u Q I rx ry h hs
 obtain⟨p,xs,i,z,rfl,rfl,hq,he,q⟩:=h
 cases rx
 obtain⟨t,rfl⟩:=ry
 obtain⟨its,r,pl,hz⟩:=I.list hq
 obtain⟨j,h1,h2,h3,h4,h5⟩:=QC he
 obtain⟨w,ew,rw'⟩:=r.get h2
 have hl:=r.length
 have hn:=OD
 have fin:EP X pins σ Q w s:=⟨z,H,I,rw',q⟩
 by_cases h0:0≤i
 ·have hj:i.toNat=j:=by
   rw[seqIndex_of h0 h5]at h1
   exact Option.some.inj h1
  exact item_listR pl.isList h0 (by omega) (by rw[hj];simpa using ew) fin hs
 ·have hj:(i+(its.toArray.size:Int)).toNat=j:=by
   rw[seqIndex_neg (by omega) h4]at h1
   rw[List.size_toArray,← hl]
   exact Option.some.inj h1
  exact subscriptTail_builtinR (x:=w) pl.isList.typeIs slot_list_getitem.lookup
   (wpAny_getItem_list_neg (Q:=fun r s'=>r=w∧EP X pins σ Q r s') pl.isList (by omega) (by rw[List.size_toArray]<;>omega) (by omega) (by rw[hj];simpa using ew) ⟨rfl,fin⟩) hs
theorem acD:IxR X (ad0 X.K):=by
 intro value slice pins s σ H x y v u Q I rx ry h hs
 obtain⟨p,xs,i,z,rfl,rfl,hq,he,q⟩:=h
 cases rx
 obtain⟨t,rfl⟩:=ry
 obtain⟨its,r,pl,hz⟩:=I.tuple hq
 obtain⟨j,h1,h2,h3,h4,h5⟩:=QC he
 obtain⟨w,ew,rw'⟩:=r.get h2
 have hl:=r.length
 have hn:=OD
 have fin:EP X pins σ Q w s:=⟨z,H,I,rw',q⟩
 exact subscriptTail_builtinR (x:=w) pl.typeIs slot_tuple_getitem.lookup
  (getItem_tuple (j:=j) (Q:=fun r s'=>r=w∧EP X pins σ Q r s') pl (by omega) (by omega) (by rw[List.size_toArray,← hl];exact h1) (by simpa using ew) ⟨rfl,fin⟩) hs
theorem acK:IxR X adV:=by
 intro value slice pins s σ H x y v u Q I rx ry h hs
 obtain⟨z,i,c,rfl,rfl,hz,he,q⟩:=h
 obtain⟨t,rfl⟩:=rx
 obtain⟨t',rfl⟩:=ry
 obtain⟨j,h1,h2,h3,h4,h5⟩:=QC he
 have hl:z.cps.toList.length=z.length:=by simp[Str.length]
 rw[hl]at h1 h4 h5
 have hn:=OD
 exact tail_any (typeIs_str s z t) slot_str_getitem.lookup (getItem_str (c:=c) (by
  have e1:decide (i < -(2 ^ 63:Int))=false:=decide_eq_false (by omega)
  have e2:decide (i≥2 ^ 63)=false:=decide_eq_false (by omega)
  rw[e1,e2,Bool.or_false]) (by rw[h1];simpa using h2) ⟨.str ⟨#[c]⟩,H,I.tok _,⟨_,rfl⟩,q⟩) hs
def rIx(K:PySem.W.Frag):R2:=fun x y H Q=>adP K x y H Q∨ad0 K x y H Q∨adV x y H Q
theorem adl:IxR X (rIx X.K):=abT.or (acD.or acK)
theorem O3(lo hi:Option Int)(n:Nat):(sliceBounds lo hi none n).1=((HT.sIx n 0 lo:Nat):Int)∧(sliceBounds lo hi none n).2.1=((HT.sIx n n hi:Nat):Int)∧(sliceBounds lo hi none n).2.2=1:=by
 refine⟨?_,?_,rfl⟩
 ·cases lo with
  |none=>simp[sliceBounds,HT.sIx]
  |some i =>
   simp only[sliceBounds,HT.sIx,Option.getD_none,show(1:Int)>0 by decide,if_true]
   by_cases h:i<0
   ·simp only[h,if_true]<;>omega
   ·simp only[h,if_false]<;>omega
 ·cases hi with
  |none=>simp[sliceBounds,HT.sIx]
  |some i =>
   simp only[sliceBounds,HT.sIx,Option.getD_none,show(1:Int)>0 by decide,if_true]
   by_cases h:i<0
   ·simp only[h,if_true]<;>omega
   ·simp only[h,if_false]<;>omega
theorem M5(its:List Value)(lo hi:Option Int):slicePick its.toArray lo hi none=((its.drop (HT.sIx its.length 0 lo)).take (HT.sIx its.length its.length hi - HT.sIx its.length 0 lo)).toArray:=by
 obtain⟨h1,h2,h3⟩:=O3 lo hi its.toArray.size
 unfold slicePick
 rw[h1,h2,h3]
 simp only[sliceRange_one,pick_run,List.size_toArray]<;>rfl
def ad9(K:PySem.W.Frag):V→Option Int→Option Int→Hp→VK→Prop:=fun x lo hi H Q=>∃a xs,x=.ref a∧SqL K H a xs∧∀p,H p=none→Q (.ref p) (upd H p (.lst (ZP xs lo hi)))
theorem abI:SlR X (ad9 X.K):=by
 intro pins s σ H x v vl vu lo hi sl Q I rx hs pl pu h
 obtain⟨a,xs,rfl,hx,q⟩:=h
 cases rx
 obtain⟨its,r,ht,hz⟩:=I.list hx
 have hlen:=r.length
 refine⟨"list",_,slot_list_getitem.lookup,ht.isList.typeIs,?_⟩
 refine wpAny_getItem_list_slice ht.isList hs pl pu .none (by simp) ?_ (by rw[List.size_toArray]<;>omega)
 rw[M5,← hlen]
 refine⟨.ref s.heap.objs.size,_,I.laid (t':=s.toks) (o:=.lst (ZP xs lo hi)) (fun b ob q=>Heap.get?_push_of_some _ q) (Nat.le_refl _) ?_,rfl,q _ (I.hok.fresh (Nat.le_refl _))⟩
 exact⟨Nat.le_trans (R0 xs lo hi) hz,_,0,(r.drop (HT.sIx xs.length 0 lo)).take (HT.sIx xs.length xs.length hi - HT.sIx xs.length 0 lo),Heap.get?_push_size _ rfl⟩
def tY:V→Bool
 |.non=>true
 |.bl _=>true
 |.int _=>true
 |.str _=>true
 |_=>false
def eqV:V→V→Bool
 |.non,.non=>true
 |.bl a,.bl b=>a==b
 |.bl a,.int b=>(if a then 1 else 0)==b
 |.int a,.bl b=>a==(if b then 1 else 0)
 |.int a,.int b=>a==b
 |.str a,.str b=>a==b
 |_,_=>false
theorem ade{A:Around}{s:Shared}{y x:V}{u v:Value}(ry:RelV y u)(rx:RelV x v)(fy:tY y=true)(fx:tY x=true):SeqAt.EqAt A s u v (eqV y x):=by
 cases y with
 |non =>
  cases ry
  cases x with
  |non=>cases rx;exact SeqAt.EqAt.same _
  |bl b=>cases rx;exact SeqAt.EqAt.none_bool b
  |int b=>obtain⟨t,rfl⟩:=rx;exact SeqAt.EqAt.none_int b t
  |str b=>obtain⟨t,rfl⟩:=rx;exact SeqAt.EqAt.none_str b t
  |_=>exact absurd (show false=true from fx) Bool.false_ne_true
 |bl a =>
  cases ry
  cases x with
  |non=>cases rx;exact SeqAt.EqAt.bool_none a
  |bl b=>cases rx;exact SeqAt.EqAt.bool_bool a b
  |int b=>obtain⟨t,rfl⟩:=rx;exact SeqAt.EqAt.bool_int a b t
  |str b=>obtain⟨t,rfl⟩:=rx;exact SeqAt.EqAt.bool_str a b t
  |_=>exact absurd (show false=true from fx) Bool.false_ne_true
 |int a =>
  obtain⟨t',rfl⟩:=ry
  cases x with
  |non=>cases rx;exact SeqAt.EqAt.int_none a t'
  |bl b=>cases rx;exact SeqAt.EqAt.int_bool a t' b
  |int b=>obtain⟨t,rfl⟩:=rx;exact SeqAt.EqAt.int_int a t' b t
  |str b=>obtain⟨t,rfl⟩:=rx;exact SeqAt.EqAt.int_str a t' b t
  |_=>exact absurd (show false=true from fx) Bool.false_ne_true
 |str a =>
  obtain⟨t',rfl⟩:=ry
  cases x with
  |non=>cases rx;exact SeqAt.EqAt.str_none a t'
  |bl b=>cases rx;exact SeqAt.EqAt.str_bool a t' b
  |int b=>obtain⟨t,rfl⟩:=rx;exact SeqAt.EqAt.str_int a t' b t
  |str b=>obtain⟨t,rfl⟩:=rx;exact SeqAt.EqAt.str_str a t' b t
  |_=>exact absurd (show false=true from fx) Bool.false_ne_true
 |_=>exact absurd (show false=true from fy) Bool.false_ne_true
def eqU(x:V)(u:Value):Bool:=match u with
 |.none=>eqV .non x
 |.bool b=>eqV (.bl b) x
 |.int i _=>eqV (.int i) x
 |.str z _=>eqV (.str z) x
 |_=>false
theorem QW{x y:V}{u:Value}(r:RelV y u)(f:tY y=true):eqU x u=eqV y x:=by
 cases y with
 |non=>cases r;rfl
 |bl b=>cases r;rfl
 |int i=>obtain⟨t,rfl⟩:=r;rfl
 |str z=>obtain⟨t,rfl⟩:=r;rfl
 |_=>exact absurd (show false=true from f) Bool.false_ne_true
theorem Pr{x:V}:∀{xs:List V} {us:List Value},Vals xs us→xs.all tY=true→us.any (eqU x)=xs.any fun y=>eqV y x
 |_,_,.nil,_=>rfl
 |y::xs,u::us,.cons r t,f=>by
  rw[List.all_cons,Bool.and_eq_true]at f
  rw[List.any_cons,List.any_cons,QW r f.1,Pr t f.2]
theorem Ei{A:Around}{s:Shared}{x:V}{v:Value}(rx:RelV x v)(fx:tY x=true):∀{xs:List V} {us:List Value},Vals xs us→xs.all tY=true→∀u∈us,SeqAt.EqAt A s u v (eqU x u)
 |_,_,.nil,_=>fun u hu=>by cases hu
 |y::xs,u::us,.cons r t,f=>fun u' hu=>by
  rw[List.all_cons,Bool.and_eq_true]at f
  rcases List.mem_cons.mp hu with rfl|hu
  ·rw[QW r f.1];exact ade r rx f.1 fx
  ·exact Ei rx fx t f.2 u' hu
def inV(x:V)(xs:List V):Bool:=xs.any fun y=>eqV y x
def rIn(K:PySem.W.Frag)(neg:Bool):R2:=fun x y H Q=>∃p xs,y=.ref p∧(SqL K H p xs∨SqT K H p xs)∧tY x=true∧xs.all tY=true∧Q (.bl (if neg then !inV x xs else inV x xs)) H
theorem YT:OpR X (compareOp .In) (rIn X.K false):=by
 intro pins s σ H x y v u Q I rx ry h
 obtain⟨p,xs,rfl,hq,fx,fs,q⟩:=h
 cases ry
 rcases hq with hq|hq
 ·obtain⟨its,r,pl,hz⟩:=I.list hq
  refine SeqAt.in_listAt (eqU x) pl.isList (fun w hw=>Ei rx fx r fs w (by simpa using hw)) ⟨.bl _,H,I,rfl,?_⟩
  rw[show its.toArray.any (eqU x)=its.any (eqU x)by simp,Pr r fs]
  exact q
 ·obtain⟨its,r,pl,hz⟩:=I.tuple hq
  refine SeqAt.in_tupleAt (eqU x) pl (fun w hw=>Ei rx fx r fs w (by simpa using hw)) ⟨.bl _,H,I,rfl,?_⟩
  rw[show its.toArray.any (eqU x)=its.any (eqU x)by simp,Pr r fs]
  exact q
theorem bC:yH X (.builtin "len") (fun xs H Q=>∃p ys,xs=[.ref p]∧(SqL X.K H p ys∨SqT X.K H p ys)∧Q (.int ys.length) H):=by
 intro pins s σ H xs us Q I r h
 obtain⟨p,ys,rfl,hq,q⟩:=h
 obtain⟨u,rfl,rx⟩:=vals1 r
 cases rx
 have hn:=OD
 rcases hq with hq|hq
 ·obtain⟨its,r',pl,hz⟩:=I.list hq
  have hlen:=r'.length
  exact Calls.call_len_list pl.isList (by simp only[List.size_toArray]<;>omega) ⟨.int ys.length,H,I.tok _,⟨s.toks+1,by rw[List.size_toArray,hlen]⟩,q⟩
 ·obtain⟨its,r',pl,hz⟩:=I.tuple hq
  have hlen:=r'.length
  exact len_tuple pl (by simp only[List.size_toArray]<;>omega) ⟨.int ys.length,H,I.tok _,⟨s.toks+1,by rw[List.size_toArray,hlen]⟩,q⟩
theorem ye:yH X (.type "list") (fun xs H Q=>∃p ys,xs=[.ref p]∧(SqL X.K H p ys∨SqT X.K H p ys)∧∀l,H l=none→Q (.ref l) (upd H l (.lst ys))):=by
 intro pins s σ H xs us Q I r h
 obtain⟨p,ys,rfl,hq,q⟩:=h
 obtain⟨u,rfl,rx⟩:=vals1 r
 cases rx
 have fin:∀(its:List Value),Vals ys its→ys.length≤sizeLine→∀(h':Heap) (c':Nat),(∀b o',s.heap.get? b=some o'→h'.get? b=some o') →
   h'.get? s.heap.objs.size=some {cls:=.type "list",dict:=none,data:=.seq its.toArray c',slots:=#[]}→EP X pins σ Q (.ref s.heap.objs.size) {s with heap:=h'}:=fun its r' hz h' c' kp e =>
  ⟨.ref s.heap.objs.size,_,I.laid (t':=s.toks) kp (Nat.le_refl _) (show iz X.prog X.w _ h' _ (.lst ys)from⟨hz,its,c',r',e⟩),rfl,q _ (I.hok.fresh (Nat.le_refl _))⟩
 rcases hq with hq|hq
 ·obtain⟨its,r',pl,hz⟩:=I.list hq
  have hlen:=r'.length
  obtain⟨o,ho,hc,n,hd⟩:=pl.isList
  exact call_list_seq p (.inl rfl) ho hc hd (fun h' c' kp e=>fin its r' hz h' c' kp e) (by simp only[List.size_toArray]<;>omega)
 ·obtain⟨its,r',pl,hz⟩:=I.tuple hq
  have hlen:=r'.length
  obtain⟨o,ho,hc,n,hd⟩:=pl
  exact call_list_seq p (.inr rfl) ho hc hd (fun h' c' kp e=>fin its r' hz h' c' kp e) (by simp only[List.size_toArray]<;>omega)
def tyV(K:PySem.W.Frag)(T:String)(x:V)(H:Hp):Prop:=match x with
 |.str _=>T = "str"
 |.int _=>T = "int"
 |.ref p=>(T = "list"∧∃xs,SqL K H p xs)∨(T = "tuple"∧∃o,K.lookup p=some o∧o.cls=.type "tuple"∧o.dict=none) ∨
   (T = "dict"∧((∃kvs,H p=some (.dK kvs))∨∃kvs,H p=some (.dT kvs)))∨(T = "set"∧∃S n,H p=some (.set S n))
 |_=>False
theorem acX{pins:List (Addr×Obj)}{σ:St}{H:Hp}{s:Shared}{T:String}{x:V}{v:Value}(I:Inv X pins σ H s)(r:RelV x v)(ty:tyV X.K T x H) :
  s.TypeIs v T∧∀a,v=.ref a→∃ob,s.heap.get? a=some ob∧ob.dict=none:=by
 cases x with
 |str z =>
  obtain⟨t,rfl⟩:=r
  cases (show T = "str" from ty)
  exact⟨typeIs_str s z t,fun _ e=>nomatch e⟩
 |int i =>
  obtain⟨t,rfl⟩:=r
  cases (show T = "int" from ty)
  exact⟨typeIs_int s i t,fun _ e=>nomatch e⟩
 |ref p =>
  cases r
  rcases ty with ⟨rfl,xs,hq⟩|⟨rfl,o,hk,hc,hd⟩|⟨rfl,hk⟩|⟨rfl,S,n,hk⟩
  ·obtain⟨its,_,pl,_⟩:=I.list hq
   refine⟨pl.isList.typeIs,fun a e=>?_⟩
   cases e
   obtain⟨o,n,e,c,hd,_⟩:=pl
   exact⟨o,e,hd⟩
  ·refine⟨⟨o,I.kIn p o hk,hc⟩,fun a e=>?_⟩
   cases e
   exact⟨o,I.kIn _ o hk,hd⟩
  ·have z:∃o,s.heap.get? p=some o∧o.ExactDict:=by
    rcases hk with ⟨kvs,hk⟩|⟨kvs,hk⟩
    ·obtain⟨_,_,_,_,o,_,_,e,ex,_⟩:=I.hok p _ hk
     exact⟨o,e,ex⟩
    ·obtain⟨_,_,_,_,o,_,_,e,ex,_⟩:=I.hok p _ hk
     exact⟨o,e,ex⟩
   obtain⟨o,e,ex⟩:=z
   refine⟨⟨o,e,ex.1⟩,fun a e2=>?_⟩
   cases e2
   exact⟨o,e,ex.2.1⟩
  ·obtain⟨o,_,_,_,e,ex,_⟩:=I.hok p _ hk
   refine⟨⟨o,e,ex.1⟩,fun a e2=>?_⟩
   cases e2
   exact⟨o,e,ex.2.1⟩
 |_=>exact False.elim ty
def tBM(K:PySem.W.Frag)(T:String)(r:V→List V→Hp→VK→Prop)(to:TE)(t:TA):TE:=fun σ H Q=>to σ H fun x H1=>tyV K T x H1∧t σ H1 fun xs H2=>r x xs H2 Q
variable {o e:Expr}{es:List Expr}{to:TE}{t:TA}{name:Str}{apos cpos:Pos}{T id:String}{r:V→List V→Hp→VK→Prop}
theorem M_(pa:PlainAttrs T)(slot:Slot T name id)(hty:typeOf (.builtin id)=pure (.type "method_descriptor"))(hm:MtR X id r)(ho:PE X o to)(ha:PA X (e::es) t)
  (hbase:attributeBase o name X.env (eval o X.env)=eval o X.env:=by rfl)
  (hfew:((backTo cpos (starEach (e::es) X.env)).all (fun x=>!x.1)&&(backToKw cpos (keywordEach [] X.env)).all (fun x=>x.1.isSome)
   && decide ((e::es).length+([]:List Keyword).length+(if ([]:List Keyword).isEmpty then 0 else 1)<30))=true:=by rfl)
  (hline:(apos.endLine==cpos.line)=true:=by rfl) (hs:starEach (e::es) X.env=(false,eval e X.env)::starEach es X.env:=by rfl) (hplain:(backTo cpos (starEach es X.env)).any (·.1)=false:=by rfl) :
  PE X (.Call (.Attribute o name apos) (e::es) [] cpos) (tBM X.K T r to t):=by
 intro pins s σ H Q I h
 refine wpAny_Call_method_late hbase hfew hline rfl (thn (ho pins s σ H _ I h) fun v s1 ⟨x,H1,I1,r1,ty,q1⟩=>?_)
 obtain⟨h1,h2⟩:=acX I1 r1 ty
 refine⟨T,id,pa,slot,hty,h1,h2,?_⟩
 have hA:=ha cpos pins s1 σ H1 _ I1 q1
 rw[hs]at hA ⊢
 refine Calls.callWith_builtin (by show(false||(backTo cpos (starEach es X.env)).any (·.1))=false;rw[hplain]<;>rfl) (Calls.evalArgs_plain ?_)
 exact thn hA fun us s2 ⟨vs,H2,I2,r2,q2⟩=>hm pins s2 σ H2 x vs v us Q I2 r1 r2 q2
end
end L2
namespace L2
open PySem PySem.Spec PyProof.Rows
def MtM(X:Cx)(id:String)(r:V→List V→Hp→VK→Prop):Prop :=
 ∀(pins:List (Addr×Obj)) (s:Shared) (σ:St) (H:Hp) (x:V) (xs:List V) (v:Value) (us:List Value) (Q:VK),Inv X pins σ H s→RelV x v→Vals xs us→r x xs H Q →
  wpAny (model X.prog X.w) X.A (call (.builtin id) (v::us)) (EP X pins σ Q) X.xe s
theorem Vals.one:∀{x:V} {us:List Value},Vals [x] us→∃u,us=[u]∧RelV x u
 |_,_,.cons r .nil=>⟨_,rfl,r⟩
section
variable {X:Cx}{pins:List (Addr×Obj)}{σ:St}{H:Hp}{s:Shared}{l b:Addr}{xs ys zs:List V}
theorem Inv.R9{its its':List Value}{n:Nat}{f:Array Value→Array Value}{t':Nat}(I:Inv X pins σ H s)(hH:H l=some (.lst xs))
  (e:s.heap.get? l=some {cls:=.type "list",data:=.seq its.toArray n}) (hf:f its.toArray=its'.toArray) (hv:Vals ys its') (hz:ys.length≤sizeLine) :
  Inv X pins σ (upd H l (.lst ys)) {s with heap:=s.heap.update l (Obj.mapSeq f),toks:=t'}:=by
 have q:=PySem.IsL.update e f
 rw[hf]at q
 refine I.write (x:=l) (e:=l) (by rw[hH];exact trivial) (.inl rfl) (fun b' u hb hu=>(Heap.get?_update_other s.heap (Obj.mapSeq f) (Ne.symm hb)).trans hu) ⟨_,q⟩ ?_
 exact⟨hz,its',_,hv,q⟩
theorem Inv.adz{its:List Value}{t':Nat}(I:Inv X pins σ H s)(hv:Vals ys its)(hz:ys.length≤sizeLine) :
  Inv X pins σ (upd H s.heap.objs.size (.lst ys)) {s with heap:=s.heap.push {cls:=.type "list",data:=.seq its.toArray},toks:=t'} :=
 I.laid (fun _ _ q=>Heap.get?_push_of_some _ q) (Nat.le_refl _) ⟨hz,its,0,hv,Heap.get?_push_size _ rfl⟩
theorem Inv.fresh(I:Inv X pins σ H s):H s.heap.objs.size=none:=I.hok.fresh (Nat.le_refl _)
theorem Inv.HR(I:Inv X pins σ H s)(hH:H l=some (.lst xs)):xs.length≤sizeLine∧∃(its:List Value) (n:Nat),Vals xs its∧xs.length=its.length∧s.heap.get? l=some {cls:=.type "list",data:=.seq its.toArray n}:=by
 obtain⟨z,its,n,r,e⟩:=I.hok l _ hH
 exact⟨z,its,n,r,r.length,e⟩
theorem Rz{n:Nat}(h:n≤sizeLine):Builtin.List.listTooLong n=false:=by
 unfold Builtin.List.listTooLong
 exact decide_eq_false (by omega)
end
section
variable {X:Cx}
def Xd:V→List V→Hp→VK→Prop:=fun x vs H Q=>∃l xs y,x=.ref l∧vs=[y]∧H l=some (.lst xs)∧xs.length<sizeLine∧Q .non (upd H l (.lst (xs++[y])))
theorem NQ:MtM X "list.append" Xd:=by
 intro pins s σ H x vs v us Q I rx rv h
 obtain⟨l,xs,y,rfl,rfl,hH,hz,q⟩:=h
 cases rx
 obtain⟨u,rfl,ru⟩:=rv.one
 obtain⟨z,its,n,r,hl,e⟩:=I.HR hH
 refine call_meets F.slot_list_append ⟨_,e,rfl⟩ F.entry_list_append (F.args_list_append_2 _ _) (PySem.list_append l its.toArray n u (by rw[List.size_toArray];omega)) ⟨e,?_⟩
 refine⟨.non,_,I.R9 (its':=its++[u]) hH e (by simp) (r.append (.cons ru .nil)) ?_,rfl,q⟩
 rw[List.length_append,List.length_singleton]
 omega
def Wj:V→List V→Hp→VK→Prop:=fun x vs H Q=>∃l b xs zs,x=.ref l∧vs=[.ref b]∧H l=some (.lst xs)∧H b=some (.lst zs)∧xs.length+zs.length≤sizeLine∧Q .non (upd H l (.lst (xs++zs)))
theorem Oi:MtM X "list.extend" Wj:=by
 intro pins s σ H x vs v us Q I rx rv h
 obtain⟨l,b,xs,zs,rfl,rfl,hH,hB,hz,q⟩:=h
 cases rx
 obtain⟨u,rfl,ru⟩:=rv.one
 cases ru
 obtain⟨z,its,n,r,hl,e⟩:=I.HR hH
 obtain⟨z2,its2,n2,r2,hl2,e2⟩:=I.HR hB
 have hsz:its.toArray.size+its2.toArray.size≤sizeLine:=by rw[List.size_toArray,List.size_toArray];omega
 have hlong:¬(!its.toArray.isEmpty&&Builtin.List.listTooLong (its.toArray.size+its2.toArray.size))=true:=by
  rw[Rz hsz,Bool.and_false]
  exact Bool.false_ne_true
 refine call_meets F.slot_list_extend ⟨_,e,rfl⟩ F.entry_list_extend (F.args_list_extend_2 _ _)
  (AutoSeq1.list_extend_list_list_0 l its.toArray n b its2.toArray n2 hlong (by rw[List.size_toArray];omega) (by omega)) ⟨e,e2,?_⟩
 refine⟨.non,_,I.R9 (its':=its++its2) hH e (by simp) (r.append r2) ?_,rfl,q⟩
 rw[List.length_append]
 omega
def abq:R2:=fun x y H Q=>∃l b xs zs,x=.ref l∧y=.ref b∧H l=some (.lst xs)∧H b=some (.lst zs)∧xs.length+zs.length≤sizeLine∧∀p,H p=none→Q (.ref p) (upd H p (.lst (xs++zs)))
theorem qx:OpR X (binaryOp .Add) abq:=by
 intro pins s σ H x y v u Q I rx ry h
 obtain⟨l,b,xs,zs,rfl,rfl,hH,hB,hz,q⟩:=h
 cases rx
 cases ry
 obtain⟨z,its,n,r,hl,e⟩:=I.HR hH
 obtain⟨z2,its2,n2,r2,hl2,e2⟩:=I.HR hB
 refine PySem.P.add_list e e2 ?_ (by rw[List.size_toArray,List.size_toArray];omega)
 have ea:its.toArray++its2.toArray=(its++its2).toArray:=by simp
 rw[ea]
 exact⟨.ref _,_,I.adz (t':=s.toks) (r.append r2) (by rw[List.length_append];omega),rfl,q _ I.fresh⟩
end
end L2
namespace L2
open PySem PySem.Spec PyProof.Rows
theorem Vals.ints:∀{ns:List Int} {us:List Value},Vals (ns.map V.int) us→IntsAre us ns
 |[],us,h=>by
  rw[List.map_nil]at h
  cases h
  exact IntsAre.nil
 |n::ns,us,h=>by
  rw[List.map_cons]at h
  cases h with
  |cons r t =>
   obtain⟨k,rfl⟩:=r
   exact IntsAre.cons n k (Vals.ints t)
theorem yD:∀{us:List Value} {ns:List Int},IntsAre us ns→Vals (ns.map V.int) us
 |_,_,.nil=>by rw[List.map_nil];exact Paired.nil
 |_,_,.cons n t h=>by rw[List.map_cons];exact Paired.cons (show RelV (V.int n) (Value.int n t)from⟨t,rfl⟩) (yD h)
theorem Vals.bls:∀{bs:List Bool} {us:List Value},Vals (bs.map V.bl) us→us=bs.map Value.bool
 |[],us,h=>by
  rw[List.map_nil]at h
  cases h
  rfl
 |b::bs,us,h=>by
  rw[List.map_cons]at h
  cases h with
  |cons r t =>
   cases r
   rw[Vals.bls t,List.map_cons]
theorem Vals.Zm{a:Addr}{us:List Value}(r:Vals [V.ref a] us):us=[Value.ref a]:=by
 cases r with
 |cons r t =>
  cases t
  cases r
  rfl
section
variable {X:Cx}
def Ub(K:PySem.W.Frag):V→List V→Hp→VK→Prop:=fun x xs H Q=>∃(a:Addr) (ys:List V) (y:V) (j:Nat) (z:V),x=V.ref a∧xs=[y]∧SqL K H a ys∧tY y=true∧ys.all tY=true∧ys[j]?=some z∧eqV z y=true ∧
 (∀(m:Nat) (z':V),m<j→ys[m]?=some z'→eqV z' y=false)∧Q (.int (j:Nat)) H
theorem W5{ys:List V}(f:ys.all tY=true){j:Nat}{z:V}(h:ys[j]?=some z):tY z=true:=List.all_eq_true.mp f z (List.mem_of_getElem? h)
theorem aaY:MtR X "list.index" (Ub X.K):=by
 intro pins s σ H x xs v us Q I rx rxs h
 obtain⟨a,ys,y,j,z,rfl,rfl,hs,fy,fys,hz,hzj,hno,q⟩:=h
 cases rx
 cases rxs with
 |cons ry rt =>
  rename_i uy ut
  cases rt
  obtain⟨its,rv,⟨⟨cls,dd,data,sl⟩,n,ho,hc,hdn,hd⟩,hlen⟩:=I.list hs
  simp only at hc hd
  subst hc hd
  obtain⟨u,hu,ru⟩:=rv.get hz
  obtain⟨hjl,hje⟩:=List.getElem?_eq_some_iff.mp hu
  have hvl:=rv.length
  have hj:j<its.toArray.size:=by simpa using hjl
  have hsl:=sizeLine_eq
  refine call_meets PySem.F.slot_list_index ⟨_,ho,rfl⟩ PySem.F.entry_list_index (PySem.F.args_list_index_2 _ _)
   (SeqAt.list_indexAt a its.toArray n dd sl uy (eqU y) j hj (by omega) ?_ ?_) ⟨ho,fun u' hu'=>Ei ry fy rv fys u' (by simpa using hu'),?_⟩
  ·have e1:its.toArray[j]=u:=by simpa using hje
   rw[e1,QW ru (W5 fys hz)]
   exact hzj
  ·intro m hm hmj
   have hml:m<its.length:=by simpa using hm
   have hmy:m<ys.length:=by omega
   have hy':ys[m]?=some ys[m]:=List.getElem?_eq_getElem hmy
   obtain⟨u2,hu2,ru2⟩:=rv.get hy'
   obtain⟨_,hme⟩:=List.getElem?_eq_some_iff.mp hu2
   have e1:its.toArray[m]=u2:=by simpa using hme
   rw[e1,QW ru2 (W5 fys hy')]
   exact hno m _ hmj hy'
  ·exact⟨.int (j:Nat),H,I.tok _,⟨_,rfl⟩,q⟩
end
theorem aam{prog:Program}{w:World}{A:Around}{E:Value→Shared→Prop}{s:Shared}{l:Addr}{items:Array Value}{Q:Value→Shared→Prop}(hl:s.heap.IsList l items)
  (h:∀s₂:Shared,s₂={s with heap:=s.heap.push {cls:=.type "list_iterator",data:=.fields #[.ref l,.int 0 0]}} →
   (s₂.heap.IsListIter s.heap.objs.size l 0∧s₂.heap.IsList l items)→l≠s.heap.objs.size→Q (.ref s.heap.objs.size) s₂):wpAny (model prog w) A (pyIter (.ref l)) Q E s:=by
 have hlt:l<s.heap.objs.size:=by obtain⟨_,e,_⟩:=hl;exact Heap.lt_size e
 exact wpAny_pyIter_list hl (h _ rfl ⟨⟨_,Heap.get?_push_size _ rfl,rfl,rfl⟩,hl.push _⟩ (Nat.ne_of_lt hlt))
theorem Su{prog:Program}{w:World}{A:Around}{bs:List Bool}{its:List Value}(e:its=bs.map Value.bool) :
  TruthOf prog w A (fun i v=>its.toArray[i]?=some v) (fun i=>bs.getD i false):=fun i v s Q E hv hq=>by
 have hv':its[i]?=some v:=by simpa using hv
 rw[e,List.getElem?_map]at hv'
 obtain⟨b,hb,rfl⟩:=Option.map_eq_some_iff.mp hv'
 have hg:bs.getD i false=b:=by rw[List.getD_eq_getElem?_getD,hb]<;>rfl
 have hq':Q (bs.getD i false) s:=hq
 rw[hg]at hq'
 exact wpAny_truthy_bool hq'
theorem any_range:∀bs:List Bool,(List.range bs.length).any (fun i=>bs.getD i false)=bs.any id
 |[]=>rfl
 |b::bs=>by
  rw[List.length_cons,List.range_succ_eq_map,List.any_cons,List.any_map,List.any_cons,← any_range bs]
  all_goals rfl
section
variable {X:Cx}
def ad3(K:PySem.W.Frag):List V→Hp→VK→Prop:=fun vs H Q=>∃(a:Addr) (bs:List Bool),vs=[V.ref a]∧SqL K H a (bs.map V.bl)∧Q (.bl (bs.any id)) H
theorem acx(hc:X.calm=true):yH X (.builtin "any") (ad3 X.K):=by
 intro pins s σ H vs us Q I r h
 obtain⟨a,bs,rfl,hs,q⟩:=h
 obtain⟨its,rv,hl,_⟩:=I.list hs
 rw[Vals.Zm r]
 have hb:=rv.bls
 refine call_any_walk (aam hl.isList fun s₂ e2 st hne=>?_)
 subst e2
 refine⟨_,_,_,_,_,_,_,rfl,Walks.list (A:=X.A.in1) (I.ok.hd hc) _ a hne its.toArray,st,Su hb,fun h' tk hk=>?_⟩
 refine⟨.bl _,H,I.kept fun b o eo=>hk b o (fun hmem=>?_) (Heap.get?_push_of_some _ eo),?_,q⟩
 ·rcases List.mem_cons.mp hmem with e1 | hmem
  ·exact absurd (e1▸Heap.lt_size eo) (Nat.lt_irrefl _)
  ·cases hmem
 ·show Value.bool _=Value.bool _
  rw[← any_range,hb,List.size_toArray,List.length_map]
end
mutual
inductive Dp(K:PySem.W.Frag)(H:Hp):V→PyData→Prop
 |non:Dp K H .non .none
 |bl (b:Bool):Dp K H (.bl b) (.bool b)
 |int (i:Int):Dp K H (.int i) (.int i)
 |str (x:Str):Dp K H (.str x) (.str x)
 |lst {a:Addr} {xs:List V} {ds:List PyData}:SqL K H a xs→Nv K H xs ds→Dp K H (.ref a) (.list ds)
 |tup {a:Addr} {xs:List V} {ds:List PyData}:SqT K H a xs→Nv K H xs ds→Dp K H (.ref a) (.tuple ds)
inductive Nv(K:PySem.W.Frag)(H:Hp):List V→List PyData→Prop
 |nil:Nv K H [] []
 |cons {v:V} {vs:List V} {d:PyData} {ds:List PyData}:Dp K H v d→Nv K H vs ds→Nv K H (v::vs) (d::ds)
end
section
variable {X:Cx}{pins:List (Addr×Obj)}{σ:St}{H:Hp}{s:Shared}
mutual
theorem Dp.reads(I:Inv X pins σ H s):∀(d:PyData) (v:V) (u:Value),Dp X.K H v d→RelV v u→∃as,Reads s.heap u d as
 |.none,_,_,h,r=>by
  cases h
  cases r
  exact⟨_,Reads.none⟩
 |.bool b,_,_,h,r=>by
  cases h
  cases r
  exact⟨_,Reads.bool b⟩
 |.int i,_,_,h,r=>by
  cases h
  obtain⟨t,rfl⟩:=r
  exact⟨_,Reads.int i t⟩
 |.str x,_,_,h,r=>by
  cases h
  obtain⟨t,rfl⟩:=r
  exact⟨_,Reads.str x t⟩
 |.list ds,_,_,h,r=>by
  cases h with
  |lst hs ha =>
   cases r
   obtain⟨its,rv,⟨o,n,ho,hc,_,hd⟩,_⟩:=I.list hs
   obtain⟨as,hr⟩:=Dp.readsAll I ds _ its ha rv
   exact⟨_,Reads.list ho hc hd hr⟩
 |.tuple ds,_,_,h,r=>by
  cases h with
  |tup hs ha =>
   cases r
   obtain⟨its,rv,⟨o,ho,hc,n,hd⟩,_⟩:=I.tuple hs
   obtain⟨as,hr⟩:=Dp.readsAll I ds _ its ha rv
   exact⟨_,Reads.tuple ho hc hd hr⟩
 |.dict _,_,_,h,_=>by cases h
theorem Dp.readsAll(I:Inv X pins σ H s):∀(ds:List PyData) (vs:List V) (us:List Value),Nv X.K H vs ds→Vals vs us→∃as,ReadsAll s.heap us ds as
 |[],_,_,h,r=>by
  cases h
  cases r
  exact⟨_,ReadsAll.nil⟩
 |d::ds,_,_,h,r=>by
  cases h with
  |cons h1 h2 =>
   cases r with
   |cons r1 r2 =>
    obtain⟨as,q1⟩:=Dp.reads I d _ _ h1 r1
    obtain⟨bs,q2⟩:=Dp.readsAll I ds _ _ h2 r2
    exact⟨_,ReadsAll.cons q1 q2⟩
end
end
end L2
namespace L2
open PySem PySem.Spec PyProof.Rows
abbrev aa8(h:Heap)(c:Addr)(v:Option Value):Prop:=h.IsCell c v
def aej(scope sc:Scope):Scope :=
 {scope with names:=scope.names.map fun(n,k)=>if (k==.free&&sc.kind==.function&&sc.names.lookup n==some .cell)then (n,.cell)else (n,k)}
def bx(cells:List (Str×Addr)):List (Str×NameKind)→List (Str×Addr)→List (Str×Addr)
 |[],acc=>acc
 |(n,k)::r,acc=>if k==.free then bx cells r ((n,(cells.lookup n).getD 0)::acc)else bx cells r acc
theorem Eh(env:Env)(f:Str×NameKind→List (Str×Addr)→Sem (ForInStep (List (Str×Addr))))
  (hf:∀n k c,f (n,k) c=if k==.free then (do let a ← cellOf env n;pure (.yield ((n,a)::c)))else pure (.yield c)) :
  ∀(names:List (Str×NameKind)) (acc:List (Str×Addr)),(∀y∈names,y.2=.free→∃c,env.cells.lookup y.1=some c)→forIn names acc f=pure (bx env.cells names acc)
 |[],acc,_=>by rw[List.forIn_nil];rfl
 |(n,k)::r,acc,h=>by
  rw[List.forIn_cons,hf]
  have ih:=fun acc=>Eh env f hf r acc fun y hy=>h y (List.mem_cons_of_mem _ hy)
  unfold bx
  by_cases hk:(k==NameKind.free)=true
  ·rw[if_pos hk,if_pos hk]
   obtain⟨c,hc⟩:=h (n,k) List.mem_cons_self (by simpa using hk)
   have e:cellOf env n=pure c:=by unfold cellOf;rw[hc]
   rw[e]
   have e2:(env.cells.lookup n).getD 0=c:=by rw[hc];rfl
   rw[e2]
   exact ih _
  ·rw[if_neg hk,if_neg hk]
   exact ih _
theorem CP{scope:Scope}{env:Env}(h:∀y∈scope.names,y.2=.free→∃c,env.cells.lookup y.1=some c):closureFor scope env=pure (bx env.cells scope.names []):=by
 simp only[closureFor]
 rw[Eh env _ (fun n k c=>rfl) scope.names [] h]
 rfl
theorem mem_lookup{α:Type}:∀{l:List (Str×α)} {n:Str} {c:α},(n,c)∈l→∃c',l.lookup n=some c'
 |(k,v)::r,n,c,h=>by
  rw[List.lookup_cons]
  cases hb:n==k with
  |true=>exact⟨_,rfl⟩
  |false =>
   rcases List.mem_cons.mp h with e|h
   ·cases e;simp at hb
   ·exact mem_lookup h
theorem sI{cells:List (Str×Addr)}:∀{names:List (Str×NameKind)} {acc:List (Str×Addr)} {n:Str} {c:Addr},(n,c)∈bx cells names acc→(n,c)∈acc∨((n,.free)∈names∧c=(cells.lookup n).getD 0)
 |[],_,_,_,h=>.inl h
 |(m,k)::r,acc,n,c,h=>by
  unfold bx at h
  split at h
  ·rename_i hk
   have hk:k=.free:=by simpa using hk
   rcases sI h with h|⟨h1,h2⟩
   ·rcases List.mem_cons.mp h with e | h
    ·cases e;exact .inr ⟨hk▸List.mem_cons_self,rfl⟩
    ·exact .inl h
   ·exact .inr ⟨List.mem_cons_of_mem _ h1,h2⟩
  ·rcases sI h with h | ⟨h1,h2⟩
   ·exact .inl h
   ·exact .inr ⟨List.mem_cons_of_mem _ h1,h2⟩
theorem zx{cells:List (Str×Addr)}:∀{names:List (Str×NameKind)} {acc:List (Str×Addr)} {p:Str×Addr},p∈acc→p∈bx cells names acc
 |[],_,_,h=>h
 |(m,k)::r,acc,p,h=>by
  unfold bx
  split
  ·exact zx (List.mem_cons_of_mem _ h)
  ·exact zx h
theorem vI{cells:List (Str×Addr)}:∀{names:List (Str×NameKind)} {acc:List (Str×Addr)} {n:Str},(n,.free)∈names→(n,(cells.lookup n).getD 0)∈bx cells names acc
 |(m,k)::r,acc,n,h=>by
  unfold bx
  rcases List.mem_cons.mp h with e|h
  ·cases e
   exact zx List.mem_cons_self
  ·split
   ·exact vI h
   ·exact vI h
theorem wQ:∀{names:List (Str×NameKind)} {h:Heap} {acc:List (Str×Addr)} {x:Str} {c:Addr},(x,c)∈cellsFrom h.objs.size names acc →
  (x,c)∈acc∨((x,.cell)∈names∧h.objs.size≤c∧aa8 (pushCells h names) c none)
 |[],_,_,_,_,h=>.inl h
 |(n,k)::r,h,acc,x,c,hm=>by
  unfold cellsFrom at hm
  unfold pushCells
  split at hm
  ·rename_i hk
   rw[if_pos hk]
   have hk:k=.cell:=by simpa using hk
   rw[← Heap.size_push h {cls:=.type "cell",data:=.cell none}]at hm
   rcases wQ hm with hm|⟨h1,h2,h3⟩
   ·rcases List.mem_cons.mp hm with e | hm
    ·cases e
     exact .inr ⟨hk▸List.mem_cons_self,Nat.le_refl _,_,pushCells_keeps r _ _ _ (Heap.get?_push_size _ rfl),rfl⟩
    ·exact .inl hm
   ·rw[Heap.size_push]at h2
    exact .inr ⟨List.mem_cons_of_mem _ h1,Nat.le_of_succ_le h2,h3⟩
  ·rename_i hk
   rw[if_neg hk]
   rcases wQ hm with hm|⟨h1,h2,h3⟩
   ·exact .inl hm
   ·exact .inr ⟨List.mem_cons_of_mem _ h1,h2,h3⟩
theorem Bf:∀{names:List (Str×NameKind)} {n:Nat} {acc:List (Str×Addr)} {p:Str×Addr},p∈acc→p∈cellsFrom n names acc
 |[],_,_,_,h=>h
 |(m,k)::r,n,acc,p,h=>by
  unfold cellsFrom
  split
  ·exact Bf (List.mem_cons_of_mem _ h)
  ·exact Bf h
theorem GP:∀{names:List (Str×NameKind)} {n:Nat} {acc:List (Str×Addr)} {x:Str},(x,.cell)∈names→∃c,(x,c)∈cellsFrom n names acc
 |(m,k)::r,n,acc,x,h=>by
  unfold cellsFrom
  rcases List.mem_cons.mp h with e|h
  ·cases e
   exact⟨n,Bf List.mem_cons_self⟩
  ·split
   ·exact GP h
   ·exact GP h
theorem Fq:∀{names:List (Str×NameKind)} {h:Heap} {acc:List (Str×Addr)} {x y:Str} {c:Addr},(∀p∈acc,p.2<h.objs.size)→(∀x y c,(x,c)∈acc→(y,c)∈acc→x=y) →
  (x,c)∈cellsFrom h.objs.size names acc→(y,c)∈cellsFrom h.objs.size names acc→x=y
 |[],_,_,_,_,_,_,hi,h1,h2=>hi _ _ _ h1 h2
 |(n,k)::r,h,acc,x,y,c,hl,hi,h1,h2=>by
  unfold cellsFrom at h1 h2
  split at h1
  ·rename_i hk
   rw[if_pos hk]at h2
   rw[← Heap.size_push h {cls:=.type "cell",data:=.cell none}]at h1 h2
   refine Fq (h:=h.push _) (fun p hp=>?_) (fun x y c a b=>?_) h1 h2
   ·rw[Heap.size_push]
    rcases List.mem_cons.mp hp with rfl|hp
    ·exact Nat.lt_succ_self _
    ·exact Nat.lt_succ_of_lt (hl p hp)
   ·rcases List.mem_cons.mp a with e | a<;>rcases List.mem_cons.mp b with e' | b
    ·cases e;cases e';rfl
    ·cases e;exact absurd (hl _ b) (Nat.lt_irrefl _)
    ·cases e';exact absurd (hl _ a) (Nat.lt_irrefl _)
    ·exact hi _ _ _ a b
  ·rename_i hk
   rw[if_neg hk]at h2
   exact Fq hl hi h1 h2
theorem Rw{M:Model}{A:Around}{E:Value→Shared→Prop}{s:Shared}{scope:Scope}{globals:Addr}{closure:List (Str×Addr)}{qual:Str}{func:Option Addr}{code:Value}{around:Env}{builtins:Addr}{Q:Env→Shared→Prop}
  (h:Q (newEnv scope s.heap.objs.size globals (cellsFrom (s.heap.objs.size+1) scope.names closure) qual func code (some around) builtins)
   {s with heap:=pushCells (s.heap.push {cls:=.type "dict",data:=.dict #[]}) scope.names}) :
  wpAny M A (newFunctionEnv scope globals closure [] qual func code (some around) builtins) Q E s:=by
 simp only[newFunctionEnv,Option.isSome_some,if_true]
 refine wpAny_bind (wpAny_alloc ?_)
 refine wpAny_bind (wpAny_layCells _ (fun n k c=>rfl) scope.names closure _ _ ?_)
 rw[show({s with heap:=s.heap.push {cls:=.type "dict",data:=.dict #[]}}:Shared).heap.objs.size=s.heap.objs.size+1 from Heap.size_push ..]
 rw[List.forIn_nil]
 exact wpAny_bind (wpAny_pure (wpAny_pure h))
theorem zf{sc:Scope}:∀{names:List (Str×NameKind)} {x:Str} {k:NameKind},
  (names.map fun(n,k)=>if (k==NameKind.free&&sc.kind==.function&&sc.names.lookup n==some .cell)then (n,NameKind.cell)else (n,k)).lookup x=some k →
  ∃k',names.lookup x=some k'∧(k=k'∨(k'=.free∧k=.cell))
 |[],_,_,h=>by simp at h
 |(n,k₀)::r,x,k,h=>by
  have ih:=@zf sc r x k
  have h':List.lookup x ((if (k₀==NameKind.free&&sc.kind==.function&&sc.names.lookup n==some .cell)=true then (n,NameKind.cell)else (n,k₀))::(r.map _))=some k:=h
  cases hx:x==n with
  |true =>
   simp only[List.lookup_cons,hx]
   by_cases hc:(k₀==NameKind.free&&sc.kind==.function&&sc.names.lookup n==some .cell)=true
   ·rw[if_pos hc]at h'
    simp only[List.lookup_cons,hx]at h'
    cases h'
    simp only[Bool.and_eq_true,beq_iff_eq]at hc
    exact⟨k₀,rfl,.inr ⟨hc.1.1,rfl⟩⟩
   ·rw[if_neg hc]at h'
    simp only[List.lookup_cons,hx]at h'
    cases h'
    exact⟨_,rfl,.inl rfl⟩
  |false =>
   simp only[List.lookup_cons,hx]
   by_cases hc:(k₀==NameKind.free&&sc.kind==.function&&sc.names.lookup n==some .cell)=true
   ·rw[if_pos hc]at h'
    simp only[List.lookup_cons,hx]at h'
    exact ih h'
   ·rw[if_neg hc]at h'
    simp only[List.lookup_cons,hx]at h'
    exact ih h'
structure wZ(N:List Str)(sc scope:Scope)(own:List (Str×Nat)):Prop where
 kind:scope.kind=.function
 uniq:∀y∈scope.names,scope.names.lookup y.1=some y.2
 ix:∀p∈own,N[p.2]?=some p.1
 free:∀y∈scope.names,y.2=.free→sc.names.lookup y.1=some .cell∨sc.names.lookup y.1=some .free
 own:∀y∈scope.names,y.2=.local∨y.2=.cell→y.1∈own.map (·.1)∨y.1∉N
def wipe(σ:St):List Nat→St
 |[]=>σ
 |v::vs=>(wipe σ vs).set v none
theorem sG(σ:St):∀vs:List Nat,(wipe σ vs).length=σ.length
 |[]=>rfl
 |v::vs=>by unfold wipe;rw[List.length_set,sG σ vs]
theorem Bm{σ:St}{i:Nat}{x:V}:∀{vs:List Nat},(wipe σ vs)[i]?=some (some x)→σ[i]?=some (some x)∧i∉vs
 |[],h=>⟨h,by simp⟩
 |v::vs,h=>by
  unfold wipe at h
  by_cases hi:v=i
  ·subst hi
   by_cases hv:v<(wipe σ vs).length
   ·rw[List.getElem?_set_self hv]at h;cases h
   ·rw[List.getElem?_eq_none (by simpa using hv)]at h;cases h
  ·rw[List.getElem?_set_ne hi]at h
   obtain⟨h1,h2⟩:=Bm h
   exact⟨h1,by simp only[List.mem_cons,not_or];exact⟨fun e=>hi e.symm,h2⟩⟩
abbrev Cx.blk(X:Cx)(s:Shared)(H:Hp)(scope:Scope)(cenv:Env)(fp:List Addr):Cx:={X with s_0:=s,H_0:=H,env:=cenv,outer:=X.stack,ex:=fp,fn:=fun x=>scope.names.lookup x==some .cell,pn:=[],xe:=fun _ _=>False}
section
variable {X:Cx}{pins:List (Addr×Obj)}{σ:St}{H:Hp}{s:Shared}
theorem RB{scope:Scope}{own:List (Str×Nat)}{fp:List Addr}(I:Inv X pins σ H s)(ok:wZ X.N X.env.scope scope own)(hN:X.N.Nodup)(hfp:∀b∈fp,tG X pins H b∧b<s.heap.objs.size) :
  Inv (X.blk s H scope (compEnvC scope (cellsFrom (s.heap.objs.size+1) scope.names (bx X.env.cells scope.names [])) s.heap.objs.size X.env) fp) [] (wipe σ (own.map (·.2))) H {s with heap:=pushCells (s.heap.push {cls:=.type "dict",data:=.dict #[]}) scope.names}:=by
 have hfree:∀y∈scope.names,y.2=.free→∃c,X.env.cells.lookup y.1=some c:=fun y hy e=>by
  rcases ok.free y hy e with k|k
  ·exact I.ok.has _ (.inl k)
  ·exact I.ok.has _ (.inr k)
 generalize hcenv:compEnvC scope (cellsFrom (s.heap.objs.size+1) scope.names (bx X.env.cells scope.names [])) s.heap.objs.size X.env=cenv
 have kp:∀b o,s.heap.get? b=some o→(pushCells (s.heap.push {cls:=.type "dict",data:=.dict #[]}) scope.names).get? b=some o:=fun b o e=>pushCells_keeps _ _ _ _ (Heap.get?_push_of_some _ e)
 have hL:cenv.locals=s.heap.objs.size:=by rw[← hcenv];rfl
 have hcl:cenv.cells=cellsFrom (s.heap.objs.size+1) scope.names (bx X.env.cells scope.names []):=by rw[← hcenv];rfl
 have hsc:cenv.scope=aej scope X.env.scope:=by rw[← hcenv];rfl
 rw[← Heap.size_push s.heap {cls:=.type "dict",data:=.dict #[]}]at hcl
 have cm:∀{y c},(y,c)∈bx X.env.cells scope.names []→X.env.cells.lookup y=some c∧c<s.heap.objs.size:=fun{y c} hm=>by
  rcases sI hm with hm|⟨h1,rfl⟩
  ·cases hm
  ·obtain⟨c,hc⟩:=hfree _ h1 rfl
   rw[hc]
   obtain⟨w,z⟩:=I.cell _ _ hc
   exact⟨rfl,z.lt⟩
 have mem:∀{y c},cenv.cells.lookup y=some c→(X.env.cells.lookup y=some c∧c<s.heap.objs.size)∨(s.heap.objs.size+1≤c∧aa8 (pushCells (s.heap.push {cls:=.type "dict",data:=.dict #[]}) scope.names) c none):=fun{y c} e=>by
  rw[hcl]at e
  rcases wQ (PySem.mem_of_lookup e)with hm|⟨_,h2,h3⟩
  ·exact .inl (cm hm)
  ·rw[Heap.size_push]at h2;exact .inr ⟨h2,h3⟩
 have look:∀{y},scope.names.lookup y=some .free→∃c,cenv.cells.lookup y=some c∧X.env.cells.lookup y=some c:=fun{y} hl=>by
  have hy:(y,NameKind.free)∈scope.names:=PySem.mem_of_lookup hl
  obtain⟨c',e'⟩:=mem_lookup (Bf (names:=scope.names) (n:=(s.heap.push {cls:=.type "dict",data:=.dict #[]}).objs.size) (vI (cells:=X.env.cells) (acc:=[]) hy))
  rw[← hcl]at e'
  refine⟨c',e',?_⟩
  rw[hcl]at e'
  rcases wQ (PySem.mem_of_lookup e')with hm|⟨h1,_,_⟩
  ·exact(cm hm).1
  ·have:=ok.uniq _ h1
   rw[hl]at this;cases this
 have okB:(X.blk s H scope cenv fp).Ok:=by
  refine⟨I.ok.mod,by show cenv.scope.kind=_;rw[hsc];exact ok.kind,by show cenv.globals=_;rw[← hcenv];exact I.ok.glob,by show cenv.builtins=_;rw[← hcenv];exact I.ok.blt,by show s.heap.objs.size≤cenv.locals;rw[hL];exact Nat.le_refl _,
   fun y z c e1 e2=>?_,fun y hy=>?_,fun y c z e=>?_,I.ok.hd,I.ok.frames,.inl rfl,fun b hb=>⟨?_,fun y c e z=>?_⟩,I.bs,Nat.le_trans I.ok.bsz I.sz,fun b o e hb=>?_,fun b hb z=>?_,I.stack,I.Ph⟩
  ·have e1:cenv.cells.lookup y=some c:=e1
   have e2:cenv.cells.lookup z=some c:=e2
   rw[hcl]at e1 e2
   refine Fq (fun p hp=>?_) (fun y z c a b=>I.ok.inj y z c (cm a).1 (cm b).1) (PySem.mem_of_lookup e1) (PySem.mem_of_lookup e2)
   rw[Heap.size_push]
   exact Nat.lt_succ_of_lt (cm (y:=p.1) (c:=p.2) hp).2
  ·show ∃c,cenv.cells.lookup y=some c
   have key:∀k,cenv.kindOf y=some k→(k=.cell∨k=.free)→∃c,cenv.cells.lookup y=some c:=fun k hk hk'=>by
    unfold Env.kindOf at hk
    rw[hsc]at hk
    obtain⟨k',e,r⟩:=zf hk
    have:k'=.cell∨k'=.free:=by
     rcases r with rfl|⟨rfl,_⟩
     ·exact hk'
     ·exact .inr rfl
    rcases this with rfl|rfl
    ·obtain⟨c,hm⟩:=GP (n:=(s.heap.push {cls:=.type "dict",data:=.dict #[]}).objs.size) (acc:=bx X.env.cells scope.names []) (PySem.mem_of_lookup e)
     obtain⟨c',e'⟩:=mem_lookup hm
     exact⟨c',by rw[hcl];exact e'⟩
    ·obtain⟨c,h1,_⟩:=look e
     exact⟨c,h1⟩
   rcases hy with hy|hy
   ·exact key _ hy (.inl rfl)
   ·exact key _ hy (.inr rfl)
  ·have z:(scope.names.lookup y==some NameKind.cell)=true:=z
   have z:scope.names.lookup y=some .cell:=by simpa using z
   have e:cenv.cells.lookup y=some c:=e
   rw[hcl]at e
   rcases wQ (PySem.mem_of_lookup e)with hm|⟨_,h2,_⟩
   ·rcases sI hm with hm | ⟨h1,_⟩
    ·cases hm
    ·have q:=ok.uniq _ h1
     rw[z]at q;cases q
   ·rw[Heap.size_push]at h2
    exact Nat.le_of_succ_le h2
  ·show b≠cenv.locals
   rw[hL];exact Nat.ne_of_lt (hfp b hb).2
  ·have e:cenv.cells.lookup y=some c:=e
   rcases mem e with ⟨h1,_⟩|⟨h1,_⟩
   ·exact(hfp b hb).1.2.2.2.2.1 y c h1 z
   ·have h2:s.heap.objs.size+1≤b:=by rw[← z];exact h1
    exact absurd (Nat.lt_of_lt_of_le (hfp b hb).2 (Nat.le_of_succ_le h2)) (Nat.lt_irrefl _)
  ·rcases(hfp b hb).1.2.2.2.1 with z | z
   ·exact I.ok.XS b o e z
   ·exact absurd (Nat.lt_of_lt_of_le (Heap.lt_size e) (Nat.le_trans I.ok.bsz z)) (Nat.lt_irrefl _)
  ·rcases List.mem_cons.mp (I.Vs b z)with z | z
   ·exact(hfp b hb).1.2.1 z
   ·exact(hfp b hb).1.2.2.1 z
 refine⟨okB,rfl,I.bare,Un.kept kp,⟨fun _=>none,?_,fun i y av e1 e2 e3=>?_⟩,fun y c e=>?_,?_,fun y c e=>?_,fun p hp=>?_,I.hok.kept kp,by rw[sG];exact I.len⟩
 ·show Heap.Ns _ cenv.locals _
  rw[hL]
  exact Heap.Ns.keeps (Heap.Ns.new ..) fun b o e=>pushCells_keeps _ _ _ _ e
 ·obtain⟨e2,hne⟩:=Bm e2
  have hfr:scope.names.lookup y=some .free∧(cenv.kindOf y=some .cell∨cenv.kindOf y=some .free):=by
   have key:∀k,cenv.scope.names.lookup y=some k→k=.local∨k=.cell∨k=.free→scope.names.lookup y=some .free∧(cenv.kindOf y=some .cell∨cenv.kindOf y=some .free):=fun k hk hk'=>by
    have hk0:=hk
    rw[hsc]at hk
    obtain⟨k',e,r⟩:=zf hk
    have no:¬(k'=.local∨k'=.cell):=fun hh=>by
     rcases ok.own _ (PySem.mem_of_lookup e) hh with e'|e'
     ·obtain⟨p,hp,hpy⟩:=List.mem_map.mp e'
      have e3:=ok.ix p hp
      have:p.1=y:=hpy
      rw[this]at e3
      exact hne (List.mem_map.mpr ⟨p,hp,Ek hN e3 e1⟩)
     ·exact e' (List.mem_of_getElem? e1)
    rcases r with rfl|⟨rfl,rfl⟩
    ·rcases hk' with rfl | rfl | rfl
     ·exact absurd (.inl rfl) no
     ·exact absurd (.inr rfl) no
     ·exact⟨e,.inr hk0⟩
    ·exact⟨e,.inl hk0⟩
   have e3:Vis cenv.scope y:=e3
   rcases e3 with e3|e3|e3
   ·exact key _ e3 (.inl rfl)
   ·exact key _ e3 (.inr (.inl rfl))
   ·exact key _ e3 (.inr (.inr rfl))
  obtain⟨m,hn,hl⟩:=I.loc
  have hvis:Vis X.env.scope y:=(ok.free _ (PySem.mem_of_lookup hfr.1) rfl).elim (fun k=>.inr (.inl k)) (fun k=>.inr (.inr k))
  obtain⟨w,r,q⟩:=hl i y av e1 e2 hvis
  refine⟨w,r,.inr ⟨hfr.2,?_⟩⟩
  obtain⟨c,h1,h2⟩:=look hfr.1
  rcases q with ⟨k,_⟩|⟨_,c',e',z⟩
  ·have k:X.env.scope.names.lookup y=some .local:=k
   rcases ok.free _ (PySem.mem_of_lookup hfr.1) rfl with k'|k'<;>rw[show X.env.scope.names.lookup y=_ from k']at k<;>cases k
  ·rw[h2]at e';cases e'
   exact⟨c,h1,z.keeps kp⟩
 ·have e:cenv.cells.lookup y=some c:=e
  rcases mem e with ⟨h1,_⟩|⟨_,z⟩
  ·obtain⟨w,z⟩:=I.cell y c h1
   exact⟨w,z.keeps kp⟩
  ·exact⟨_,z⟩
 ·show H cenv.locals=none
  rw[hL];exact I.hok.fresh (Nat.le_refl _)
 ·have e:cenv.cells.lookup y=some c:=e
  rcases mem e with ⟨h1,_⟩|⟨h1,_⟩
  ·exact I.t_ y c h1
  ·exact I.hok.fresh (Nat.le_of_succ_le h1)
 ·exact absurd (show p∈([]:List (Addr×Obj))++[]from hp) (by simp)
theorem acT{E:Value→Shared→Prop}{D:Addr}{xs:List V}{y:V}{v:Value}{Q:Value→Shared→Prop}(I:Inv X pins σ H s)(hD:H D=some (.lst xs))(hz:xs.length<sizeLine)(r:RelV y v)
  (h:∀s',Inv X pins σ (upd H D (.lst (xs++[y]))) s'→Q .none s'):wpAny (model X.prog X.w) X.A (call (.builtin "list.append") [.ref D,v]) Q E s:=by
 obtain⟨hz',its,n,ri,e⟩:=I.hok D _ hD
 have hl:=ri.length
 refine append_at (hsz:=by rw[List.size_toArray];omega) e fun h' sb ho'=>?_
 refine h {s with heap:=h'} (I.write (t':=s.toks) (by rw[hD];trivial) (.inl rfl) (fun b u hb q=>(sb.2 b hb).trans q) ⟨_,ho'⟩ ⟨by rw[List.length_append];exact hz,its++[v],n+1,ri.append (.cons r .nil),?_⟩)
 rw[ho']
 simp
def PTs(X:Cx)(ifs:List Expr)(t:TT):Prop :=
 ∀(pins:List (Addr×Obj)) (s:Shared) (σ:St) (H:Hp) (Q:Bool→Hp→Prop),Inv X pins σ H s→t σ H Q →
  wpAny (model X.prog X.w) X.A (forIn ifs true fun c r=>if r=true then do let ok ← isTrue c X.env (eval c X.env);pure (ForInStep.yield ok)else pure (ForInStep.yield r)) (TP X pins σ Q) X.xe s
def YB:TT:=fun _ H Q=>Q true H
theorem yh:PTs X [] YB:=fun _ _ _ H _ I h=>wpAny_tests_nil ⟨H,I,h⟩
theorem jD{c:Expr}{t:TT}(h:PT X c t):PTs X [c] t:=fun pins s σ H Q I hw=>wpAny_tests_one (h pins s σ H Q I hw)
end
theorem XN{α:Type}{t:Sem α}{Q Q':α→Shared→Prop}{M:Model}{A:Around}{E:Value→Shared→Prop}{s:Shared}(h:wpAny M A t Q (fun _ _=>False) s)(hQ:∀a s,Q a s→Q' a s):wpAny M A t Q' E s:=wpAny_mono h hQ fun _ _ z=>False.elim z
theorem QS{prog:Program}{w:World}{A:Around}{R:Result→Shared→Prop}{s:Shared}{elt target iter:Expr}{ifs:List Expr}{scope:Scope}{pos:Pos}{it acc:Value}{env:Env}(I:Nat→Shared→Prop)
  (turn:∀n s,I n s→wpAny (model prog w) A (pyNext it) (fun r s₁=>match r with
   |none=>R (.ok .next) s₁
   |some v=>wpAny (model prog w) A (letOwnedTupleGo target it v) (fun _ s₁'=>wpAny (model prog w) A (assign target env v) (fun _ s₂ =>
     wpAny (model prog w) A (forIn ifs true fun c r=>if r=true then do let ok ← isTrue c env (eval c env);pure (ForInStep.yield ok)else pure (ForInStep.yield r)) (fun ok s₃ =>
      if ok=true then wpAny (model prog w) A (eval elt env) (fun x s₄ =>
       wpAny (model prog w) A (call (.builtin "list.append") [acc,x]) (fun _ s₅=>∃m,m<n∧I m s₅) (notedBy (model prog w) A env fun e s'=>R (.error e) s') s₄) (notedBy (model prog w) A env fun e s'=>R (.error e) s') s₃
      else ∃m,m<n∧I m s₃) (notedBy (model prog w) A env fun e s'=>R (.error e) s') s₂) (notedBy (model prog w) A env fun e s'=>R (.error e) s') s₁') (notedBy (model prog w) A env fun e s'=>R (.error e) s') s₁) (notedBy (model prog w) A env fun e s'=>R (.error e) s') s)
  (n:Nat) (h:I n s) :
  codeAny (model prog w) A (.compLoop (.ListComp elt [⟨target,iter,ifs,0⟩] scope pos) 0 it acc env) R s:=by
 refine codeAny_loop rfl I (fun n s hI=>?_) n h
 show wpAny _ A ((compTurn (.ListComp elt [⟨target,iter,ifs,0⟩] scope pos) 0 it acc env).onRaise (fun x=>do noteFrame x env;theTreesLotGoes x)) _ _ s
 refine wpAny_noted ?_
 rw[compTurn_list]
 refine wpAny_bind (wpAny_standAt (wpAny_bind (wpAny_mono (turn n s hI) (fun r s₁ h₁=>?_) fun _ _ h'=>h')))
 cases r with
 |none=>exact wpAny_pure h₁
 |some v =>
  refine wpAny_bind (wpAny_mono h₁ (fun _ s₁' h₁'=>?_) fun _ _ h'=>h')
  refine wpAny_bind (wpAny_mono h₁' (fun _ s₂ h₂=>wpAny_bind (wpAny_mono h₂ (fun ok s₃ h₃=>?_) fun _ _ h'=>h')) fun _ _ h'=>h')
  cases ok with
  |false=>exact wpAny_pure ⟨rfl,h₃⟩
  |true =>
   exact wpAny_bind (wpAny_bind (wpAny_mono h₃ (fun x s₄ h₄=>wpAny_bind (wpAny_mono h₄ (fun _ s₅ h₅=>wpAny_pure (wpAny_pure ⟨rfl,h₅⟩)) fun _ _ h'=>h')) fun _ _ h'=>h'))
section
variable {X:Cx}
def tLc(wi:TI)(g:TG)(tt:TT)(te:TE)(vs:List Nat):TE:=fun σ H Q=>wi σ H fun J H1=>∀D,H1 D=none→∃W:Nat→Nat→Hp→Prop,(∃m,W 0 m (upd H1 D (.lst [])))∧∀i m H,W i m H →
 (J.stop i H∧Q (.ref D) H)∨(J.go i H∧∃Nx:Hp→Prop,(∀H',Nx H'→∃m',m'<m∧W (i+1) m' H')∧∀x H',J.yld i H x H'→g x (wipe σ vs) H' fun σ2 H2=>wipe σ2 vs=wipe σ vs∧tt σ2 H2 fun b H3 =>
  if b=true then te σ2 H3 fun y H4=>∃acc,H4 D=some (.lst acc)∧acc.length<sizeLine∧Nx (upd H4 D (.lst (acc++[y])))else Nx H3)
theorem Wu{pins:List (Addr×Obj)}{s:Shared}{σ:St}{H:Hp}{Q:VK}{elt tg iter:Expr}{ifs:List Expr}{scope:Scope}{own:List (Str×Nat)}{pos pos':Pos}{wi:TI}{g:TG}{tt:TT}{te:TE}{use:Option (Value→Sem Unit)}{Qf:Value→Shared→Prop}
  (hc:X.calm=true) (hN:X.N.Nodup) (I:Inv X pins σ H s) (hi:PI X tg iter wi) (ok:wZ X.N X.env.scope scope own)
  (hg:∀(s:Shared) (H:Hp) (C:Addr) (cl:List (Str×Addr)) (fp:List Addr),PG (X.blk s H scope (compEnvC scope cl C X.env) fp) tg g) (ht:∀(s:Shared) (H:Hp) (C:Addr) (cl:List (Str×Addr)) (fp:List Addr),PTs (X.blk s H scope (compEnvC scope cl C X.env) fp) ifs tt)
  (he:∀(s:Shared) (H:Hp) (C:Addr) (cl:List (Str×Addr)) (fp:List Addr),PE (X.blk s H scope (compEnvC scope cl C X.env) fp) elt te) (hs:∀x,foldedSetIterable iter X.env x=pure x)
  (h:tLc wi g tt te (own.map (·.2)) σ H Q)
  (hRR:∀D C s' m H',Inv X pins σ H' s'→Q (.ref D) H'→s'.heap.Ns C m→tG X pins H' C→compPost (model X.prog X.w) X.A X.xe use Qf (.ref D) C (.ok .next) s') :
  wpAny (model X.prog X.w) X.A (comprehension (.ListComp elt [⟨tg,iter,ifs,0⟩] scope pos) scope X.env pos' (newList []) false (eval iter X.env) use) Qf X.xe s:=by
 have hfree:∀y∈scope.names,y.2=.free→∃c,X.env.cells.lookup y.1=some c:=fun y hy e=>by
  rcases ok.free y hy e with k|k
  ·exact I.ok.has _ (.inl k)
  ·exact I.ok.has _ (.inr k)
 refine wpAny_comprehension_free (use:=use) rfl hs (CP hfree) ok.kind (fun y hy e=>by rw[ok.uniq y hy,e])
  (thn (hi pins s σ H _ I h) fun xv s1 hx=>thn hx fun itv s2 h2=>?_)
 obtain⟨it,fp,tn,J,H2,e,I2,T,st2,f2,q⟩:=h2
 subst e
 refine wpAny_newObj_type (Rw ?_) (by show 0≤sizeLine;decide)
 generalize hD:s2.heap.objs.size=D
 have hDn:H2 D=none:=I2.hok.fresh (Nat.le_of_eq hD)
 obtain⟨W,⟨m0,w0⟩,turn⟩:=q D hDn
 generalize hs3:({s2 with heap:=s2.heap.push {cls:=.type "list",data:=.seq ([]:List Value).toArray}}:Shared)=s3
 have I3:Inv X pins σ (upd H2 D (.lst [])) s3:=by
  rw[← hs3]
  refine I2.laid (t':=s2.toks) (fun b o e=>Heap.get?_push_of_some _ e) (Nat.le_of_eq hD) ⟨Nat.zero_le _,[],0,.nil,?_⟩
  rw[← hD]
  exact Heap.get?_push_size _ rfl
 have h3:s3.heap=s2.heap.push {cls:=.type "list",data:=.seq ([]:List Value).toArray}:=by rw[← hs3]
 have sz:∀b∈fp,b<s2.heap.objs.size:=fun b hb=>by
  obtain⟨o,e,_⟩:=T.obj _ _ st2 b hb
  exact Heap.lt_size e
 have f3:∀b∈fp,tG X pins (upd H2 D (.lst [])) b∧b<s3.heap.objs.size:=fun b hb=>by
  have hlt:=sz b hb
  refine⟨⟨?_,(f2 b hb).2⟩,by rw[h3,Heap.size_push];exact Nat.lt_succ_of_lt hlt⟩
  rw[aO (by rw[← hD];exact Nat.ne_of_lt hlt)]
  exact(f2 b hb).1
 have st3:tn 0 s3.heap:=T.keep _ _ _ st2 fun b _ o e=>by rw[h3];exact Heap.get?_push_of_some _ e
 have I4:=RB I3 ok hN f3
 have pg:=hg s3 (upd H2 D (.lst [])) s3.heap.objs.size (cellsFrom (s3.heap.objs.size+1) scope.names (bx X.env.cells scope.names [])) fp
 have pt:=ht s3 (upd H2 D (.lst [])) s3.heap.objs.size (cellsFrom (s3.heap.objs.size+1) scope.names (bx X.env.cells scope.names [])) fp
 have pe:=he s3 (upd H2 D (.lst [])) s3.heap.objs.size (cellsFrom (s3.heap.objs.size+1) scope.names (bx X.env.cells scope.names [])) fp
 show codeAny _ _ (.compStart (.ListComp elt [⟨tg,iter,ifs,0⟩] scope pos) 0 (.ref it) (.ref D) (compEnvC scope (cellsFrom (s3.heap.objs.size+1) scope.names (bx X.env.cells scope.names [])) s3.heap.objs.size X.env)) (compPost (model X.prog X.w) X.A X.xe use Qf (.ref D) s3.heap.objs.size) {s3 with heap:=pushCells (s3.heap.push {cls:=.type "dict",data:=.dict #[]}) scope.names}
 have nfp:∀b∈fp,(upd H2 D (.lst [])) b=none:=fun b hb=>(f3 b hb).1.1
 generalize hce:compEnvC scope (cellsFrom (s3.heap.objs.size+1) scope.names (bx X.env.cells scope.names [])) s3.heap.objs.size X.env=ce at I4 pg pt pe ⊢
 have cL:ce.locals=s3.heap.objs.size:=by subst hce;rfl
 generalize hH3:upd H2 D (.lst [])=H3 at I3 I4 pg pt pe w0 nfp f3
 generalize hs4:({s3 with heap:=pushCells (s3.heap.push {cls:=.type "dict",data:=.dict #[]}) scope.names}:Shared)=s4 at I4 ⊢
 have st4:tn 0 s4.heap:=T.keep _ _ _ st3 fun b _ o e=>by rw[← hs4];exact pushCells_keeps _ _ _ _ (Heap.get?_push_of_some _ e)
 have stat:∀{σ':St} {H':Hp} {s':Shared},Inv (X.blk s3 H3 scope ce fp) [] σ' H' s'→(∀b∈fp,H' b=none)→∀b∈fp,tG (X.blk s3 H3 scope ce fp) [] H' b:=fun{σ' H' s'} I' hn b hb =>
  ⟨hn b hb,(I'.ok.exf b hb).1,I'.ok.Vr b hb,.inl hb,fun x c e=>(I'.ok.exf b hb).2 x c e,fun p hp=>absurd (show p∈([]:List (Addr×Obj))++[]from hp) (by simp)⟩
 have loop:codeAny (model X.prog X.w) X.A (.compLoop (.ListComp elt [⟨tg,iter,ifs,0⟩] scope pos) 0 (.ref it) (.ref D) ce) (compPost (model X.prog X.w) X.A X.xe use Qf (.ref D) s3.heap.objs.size) s4:=by
  refine QS (fun n s'=>∃i H',Inv (X.blk s3 H3 scope ce fp) [] (wipe σ (own.map (·.2))) H' s'∧tn i s'.heap∧(∀b∈fp,H' b=none)∧W i n H') ?_ m0 ⟨0,H3,I4,st4,nfp,w0⟩
  rintro n s5 ⟨i,H5,I5,st5,n5,w5⟩
  rcases turn i n H5 w5 with ⟨stop,qq⟩|⟨go,Nx,hNx,step⟩
  ·have td:=T.done (X.blk s3 H3 scope ce fp) rfl rfl rfl hc i [] s5 _ H5 (fun _ _=>False) I5 (stat I5 n5) st5 stop
   refine XN td fun r s6 ⟨hr,I6⟩=>?_
   subst hr
   have I7:Inv X pins σ H5 s6:=I3.call' (ch:=fp) I6.os I6.base I6.hok I6.bare fun b hb=>⟨(f3 b hb).1.2.2.2.1,(f3 b hb).1.2.1,(f3 b hb).1.2.2.2.2.1,(f3 b hb).1.2.2.2.2.2⟩
   have nC:H5 s3.heap.objs.size=none:=by
    have z:H5 ce.locals=none:=I6.free
    rw[cL]at z
    exact z
   obtain⟨m,hn,_⟩:=I6.loc
   have hn:s6.heap.Ns ce.locals m:=hn
   rw[cL]at hn
   exact hRR D s3.heap.objs.size s6 m H5 I7 qq hn (I3.Yo (Nat.le_refl _) nC)
  ·have ti:=T.item (X.blk s3 H3 scope ce fp) rfl rfl rfl hc i [] s5 _ H5 (fun _ _=>False) I5 (stat I5 n5) st5 go
   refine XN ti fun r s6 ⟨u,hr,h6⟩=>?_
   subst hr
   refine XN h6 fun _ s7 ⟨x,H7,I7,r7,y7,st7,n7⟩=>?_
   have I7':=I7.pinned (stat I7 n7) (T.obj _ _ st7)
   refine XN (pg _ s7 _ H7 x u _ I7' r7 (step x H7 y7)) fun _ s8 ⟨σ8,H8,I8,hw8,q8⟩=>?_
   refine XN (pt _ s8 σ8 H8 _ I8 q8) fun b s9 ⟨H9,I9,q9⟩=>?_
   have fin:∀{s':Shared} {H':Hp},Inv (X.blk s3 H3 scope ce fp) ([]++Je fp s7.heap) σ8 H' s'→Nx H'→∃m,m<n∧∃i H',Inv (X.blk s3 H3 scope ce fp) [] (wipe σ (own.map (·.2))) H' s'∧tn i s'.heap∧(∀b∈fp,H' b=none)∧W i m H':=fun{s' H'} I' nx=>by
    obtain⟨m',hm,w'⟩:=hNx H' nx
    have pin':∀b∈fp,∀o,s7.heap.get? b=some o→s'.heap.get? b=some o∧H' b=none:=fun b hb o e =>
     let z:=I'.pin (b,o) (List.mem_append_right _ (List.mem_append_right _ (uQ hb e)))
     ⟨z.1,z.2.1⟩
    have hl:(wipe σ (own.map (·.2))).length=σ8.length:=by rw[← hw8,sG]
    refine⟨m',hm,i+1,H',(I'.wV (pins:=[])).weak hl (fun j v e=>?_),T.keep _ _ _ st7 fun b hb o e=>(pin' b hb o e).1,fun b hb=>?_,w'⟩
    ·rw[← hw8]at e
     exact(Bm e).1
    ·obtain⟨o,e,_⟩:=T.obj _ _ st7 b hb
     exact(pin' b hb o e).2
   cases b with
   |false =>
    simp only[Bool.false_eq_true,if_false]at q9 ⊢
    exact fin I9 q9
   |true =>
    simp only[if_true]at q9 ⊢
    refine XN (pe _ s9 σ8 H9 _ I9 q9) fun z s10 ⟨yv,H10,I10,r10,acc,hD10,hz10,nx⟩=>?_
    exact acT (X:=X.blk s3 H3 scope ce fp) I10 hD10 hz10 r10 fun s11 I11=>fin I11 nx
 exact codeAny_compStart_list loop (T.self X.A 0 _ _ _ st4 loop)
theorem t7{elt tg iter:Expr}{ifs:List Expr}{scope:Scope}{own:List (Str×Nat)}{pos:Pos}{wi:TI}{g:TG}{tt:TT}{te:TE}(hc:X.calm=true)(hN:X.N.Nodup)(hi:PI X tg iter wi)(ok:wZ X.N X.env.scope scope own)
  (hg:∀(s:Shared) (H:Hp) (C:Addr) (cl:List (Str×Addr)) (fp:List Addr),PG (X.blk s H scope (compEnvC scope cl C X.env) fp) tg g) (ht:∀(s:Shared) (H:Hp) (C:Addr) (cl:List (Str×Addr)) (fp:List Addr),PTs (X.blk s H scope (compEnvC scope cl C X.env) fp) ifs tt)
  (he:∀(s:Shared) (H:Hp) (C:Addr) (cl:List (Str×Addr)) (fp:List Addr),PE (X.blk s H scope (compEnvC scope cl C X.env) fp) elt te) (hs:∀x,foldedSetIterable iter X.env x=pure x:=by intro _;rfl) :
  PE X (.ListComp elt [⟨tg,iter,ifs,0⟩] scope pos) (tLc wi g tt te (own.map (·.2))):=by
 intro pins s σ H Q I h
 rw[eval_ListComp]
 refine Wu hc hN I hi ok hg ht he hs h fun D C s' m H' I' q hn f=>⟨m,hn,fun h'' sb=>?_⟩
 obtain⟨f0,f1,f2,f3,f4,f5⟩:=f
 exact⟨.ref D,H',I'.turned (t':=s'.toks) (fun b o hb e=>(sb.2 b hb).trans e) f0 f1 f3 f4 f5,rfl,q⟩
theorem xH{i:Nat}{y:Str}{py:Pos}{elt tg iter:Expr}{ifs:List Expr}{scope:Scope}{own:List (Str×Nat)}{pos spos:Pos}{wi:TI}{g:TG}{tt:TT}{te:TE}(hc:X.calm=true)(hN:X.N.Nodup)(hy:X.N[i]?=some y)(hyl:X.env.scope.names.lookup y=some .local)
  (hsw:swapsWith (.ListComp elt [⟨tg,iter,ifs,0⟩] scope pos) (some (.Name y py)) spos.line X.env=pure true) (hi:PI X tg iter wi) (ok:wZ X.N X.env.scope scope own)
  (hg:∀(s:Shared) (H:Hp) (C:Addr) (cl:List (Str×Addr)) (fp:List Addr),PG (X.blk s H scope (compEnvC scope cl C X.env) fp) tg g) (ht:∀(s:Shared) (H:Hp) (C:Addr) (cl:List (Str×Addr)) (fp:List Addr),PTs (X.blk s H scope (compEnvC scope cl C X.env) fp) ifs tt)
  (he:∀(s:Shared) (H:Hp) (C:Addr) (cl:List (Str×Addr)) (fp:List Addr),PE (X.blk s H scope (compEnvC scope cl C X.env) fp) elt te) (hs:∀x,foldedSetIterable iter X.env x=pure x:=by intro _;rfl) :
  PS X (.Assign [.Name y py] (.ListComp elt [⟨tg,iter,ifs,0⟩] scope pos) spos) (Va (tLc wi g tt te (own.map (·.2))) (uL i)):=by
 intro pins s σ H D I h
 rw[exec_Assign_Name_used _ _ _ _ hsw]
 refine wpAny_bind (wpAny_standAt (wpAny_bind ?_))
 show wpAny _ X.A (do let _ ← comprehension (.ListComp elt [⟨tg,iter,ifs,0⟩] scope pos) scope X.env (firstIterPos [⟨tg,iter,ifs,0⟩] pos) (newList []) false (eval iter X.env) (some (assign (.Name y py) X.env))) _ _ s
 have h:tLc wi g tt te (own.map (·.2)) σ H (fun x H1=>uL i x σ H1 D.nx):=h
 refine wpAny_bind (thn (Wu (Qf:=fun _ s'=>SP X pins D .next s') hc hN I hi ok hg ht he hs h fun L C s' m H' I' q hn f=>?_) fun _ s' hq=>wpAny_pure (wpAny_pure hq))
 show wpAny _ _ (assign (.Name y py) X.env (.ref L)) _ _ _
 refine wpAny_assign_Name (N5 (v:=V.ref L) I' hN hy (.inl hyl) rfl (fun s2 I2 ⟨a,sb,ha⟩=>?_) (.inr hyl))
 obtain⟨f0,f1,f2,f3,f4,f5⟩:=f
 have haC:C≠a:=by
  rcases ha with z|z
  ·rw[z];exact f1
  ·exact fun e=>f4 y a z e.symm
 refine⟨m,hn.sameBut sb haC,fun h3 sb3=>?_⟩
 exact⟨_,H',I2.turned (t':=s2.toks) (fun b o hb e=>(sb3.2 b hb).trans e) f0 f1 f3 f4 f5,q⟩
theorem Bj{elt:Expr}{gs:List Comprehension}{scope:Scope}{pos py:Pos}{y:Str}{l:Nat}{env:Env}(hk:env.scope.kind=.function)(hy:env.scope.names.lookup y=some .local)(hl:(py.line==pos.line)=true)
  (ha:(scope.names.any fun(n,k)=>n==y&&(k==.local||k==.cell))=false):swapsWith (.ListComp elt gs scope pos) (some (.Name y py)) l env=pure true:=by
 have ky:env.kindOf y=some .local:=hy
 have hb:env.blockKind=.function:=by unfold Env.blockKind;rw[hk];rfl
 unfold swapsWith
 simp only[hb,ky,ha,Expr.pos,hl]
 rfl
end
theorem ab3{K:PySem.W.Frag}{a:Addr}{xs:List V}{g:TG}{tt:TT}{te:TE}{vs:List Nat}{σ:St}{H1:Hp}{D:Addr}{Qd:Hp→Prop}(Pv:Nat→Hp→Prop)(h0:Pv 0 (upd H1 D (.lst [])))(hl:∀i H,i≤xs.length→Pv i H→SqL K H a xs)
  (hs:∀i x H,xs[i]?=some x→Pv i H→g x (wipe σ vs) H fun σ2 H2=>wipe σ2 vs=wipe σ vs∧tt σ2 H2 fun b H3 =>
   if b=true then te σ2 H3 fun y H4=>∃acc,H4 D=some (.lst acc)∧acc.length<sizeLine∧Pv (i+1) (upd H4 D (.lst (acc++[y])))else Pv (i+1) H3) (hd:∀H,Pv xs.length H→Qd H) :
  ∃W:Nat→Nat→Hp→Prop,(∃m,W 0 m (upd H1 D (.lst [])))∧∀i m H,W i m H →
   ((Itl K a).stop i H∧Qd H)∨((Itl K a).go i H∧∃Nx:Hp→Prop,(∀H',Nx H'→∃m',m'<m∧W (i+1) m' H')∧∀x H',(Itl K a).yld i H x H'→g x (wipe σ vs) H' fun σ2 H2=>wipe σ2 vs=wipe σ vs∧tt σ2 H2 fun b H3 =>
    if b=true then te σ2 H3 fun y H4=>∃acc,H4 D=some (.lst acc)∧acc.length<sizeLine∧Nx (upd H4 D (.lst (acc++[y])))else Nx H3):=by
 refine⟨fun i m H=>m=xs.length - i∧i≤xs.length∧Pv i H,⟨xs.length,by simp,Nat.zero_le _,h0⟩,?_⟩
 rintro i m H ⟨rfl,hi,p⟩
 have q:=hl i H hi p
 by_cases hlt:i<xs.length
 ·refine .inr ⟨⟨xs,xs[i],q,by simp[hlt]⟩,Pv (i+1),fun H' p'=>⟨xs.length - (i+1),by omega,rfl,hlt,p'⟩,fun x H' y=>?_⟩
  obtain⟨e,y⟩:=y
  subst e
  exact hs i x _ (y xs q) p
 ·have e:i=xs.length:=by omega
  subst e
  exact .inl ⟨⟨xs,q,Nat.le_refl _⟩,hd H p⟩
def qF(N:List Str)(sc scope:Scope)(own:List (Str×Nat)):Bool :=
 (match scope.kind with | .function=>true | _=>false)&&(scope.names.all fun y=>decide (scope.names.lookup y.1=some y.2))&&(own.all fun p=>decide (N[p.2]?=some p.1)) &&
  (scope.names.all fun y=>match y.2 with
   |.free=>(match sc.names.lookup y.1 with | some .cell=>true | some .free=>true | _=>false)
   |.local=>decide (y.1∈own.map (·.1))||decide (y.1∉N)
   |.cell=>decide (y.1∈own.map (·.1))||decide (y.1∉N)
   |_=>true)
theorem cH{N:List Str}{sc scope:Scope}{own:List (Str×Nat)}(h:qF N sc scope own=true):wZ N sc scope own:=by
 unfold qF at h
 simp only[Bool.and_eq_true,List.all_eq_true,decide_eq_true_eq]at h
 obtain⟨⟨⟨h1,h2⟩,h3⟩,h4⟩:=h
 refine⟨?_,h2,h3,fun y hy e=>?_,fun y hy e=>?_⟩
 ·split at h1
  ·assumption
  ·cases h1
 ·have q:=h4 y hy
  simp only[e]at q
  split at q<;>first | exact .inl (by assumption) | exact .inr (by assumption) | cases q
 ·have q:=h4 y hy
  rcases e with e|e<;>(simp only[e,Bool.or_eq_true,decide_eq_true_eq]at q;exact q)
end L2
namespace L2
open PySem PySem.Spec PyProof.Rows
end L2
namespace L2
open PySem PySem.Spec PyProof.Rows
section
variable {κ:Type}[DecidableEq κ]
def j_(kvs:List (κ×V))(k:κ):Option V:=(kvs.find? fun kv=>decide (kv.1=k)).map (·.2)
def putK(kvs:List (κ×V))(k:κ)(v:V):List (κ×V) :=
 if (kvs.any fun kv=>decide (kv.1=k))=true then kvs.map (fun kv=>if kv.1=k then (kv.1,v)else kv)else kvs++[(k,v)]
def BW(kvs:List (κ×V))(k:κ):List (κ×V):=kvs.filter fun kv=>decide (kv.1≠k)
theorem Jj{p:κ×V}{r:List (κ×V)}{k:κ}(e:p.1=k):j_ (p::r) k=some p.2:=by simp[j_,List.find?_cons,e]
theorem Kw{p:κ×V}{r:List (κ×V)}{k:κ}(e:¬p.1=k):j_ (p::r) k=j_ r k:=by simp[j_,List.find?_cons,e]
theorem Eu(k:κ):∀kvs:List (κ×V),(kvs.any fun kv=>decide (kv.1=k))=(j_ kvs k).isSome
 |[]=>rfl
 |p::r=>by
  rw[List.any_cons]
  by_cases e:p.1=k
  ·simp only[Jj e,decide_eq_true e,Bool.true_or,Option.isSome_some]
  ·rw[Kw e,decide_eq_false e,Bool.false_or];exact Eu k r
theorem Hw(kvs:List (κ×V))(k:κ)(v:V):(putK kvs k v).length≤kvs.length+1:=by
 unfold putK
 split
 ·rw[List.length_map];omega
 ·rw[List.length_append,List.length_cons,List.length_nil];omega
theorem RD{kvs:List (κ×V)}{k:κ}(v:V)(h:j_ kvs k=none):putK kvs k v=kvs++[(k,v)]:=by
 unfold putK
 rw[Eu,h]
 exact if_neg (by decide)
theorem zb.Bl{o:Option V}{u:Option Value}(r:zb o u):o.isSome=u.isSome:=by
 cases o with
 |none=>cases u with
  |none=>rfl
  |some _=>exact(show False from r).elim
 |some _=>cases u with
  |none=>exact(show False from r).elim
  |some _=>rfl
theorem KV.val{kvs:List (κ×V)}{vs:List (κ×Value)}(r:KV kvs vs)(k:κ):zb (j_ kvs k) (valueAt vs k):=by
 unfold KV at r
 induction r with
 |nil=>exact True.intro
 |@cons p q ps qs h t ih =>
  obtain⟨h1,h2⟩:=h
  by_cases e:p.1=k
  ·have e':q.1=k:=h1.symm.trans e
   have b:valueAt (q::qs) k=some q.2:=by simp[valueAt,List.find?_cons,e']
   rw[Jj e,b];exact h2
  ·have e':¬q.1=k:=fun z=>e (h1.trans z)
   have b:valueAt (q::qs) k=valueAt qs k:=by simp[valueAt,List.find?_cons,e']
   rw[Kw e,b];exact ih
theorem KV.any{kvs:List (κ×V)}{vs:List (κ×Value)}(r:KV kvs vs)(k:κ):(kvs.any fun kv=>decide (kv.1=k))=vs.any fun kv=>decide (kv.1=k):=by
 unfold KV at r
 induction r with
 |nil=>rfl
 |cons h t ih=>rw[List.any_cons,List.any_cons,ih,h.1]
theorem KV.repl{kvs:List (κ×V)}{vs:List (κ×Value)}(r:KV kvs vs)(k:κ){y:V}{u:Value}(ry:RelV y u) :
  KV (kvs.map fun kv=>if kv.1=k then (kv.1,y)else kv) (vs.map fun kv=>if kv.1=k then (kv.1,u)else kv):=by
 unfold KV at r ⊢
 induction r with
 |nil=>exact .nil
 |@cons p q ps qs h t ih =>
  rw[List.map_cons,List.map_cons]
  refine .cons ?_ ih
  obtain⟨h1,h2⟩:=h
  by_cases e:p.1=k
  ·rw[if_pos e,if_pos (h1.symm.trans e)];exact⟨h1,ry⟩
  ·rw[if_neg e,if_neg (fun z=>e (h1.trans z))];exact⟨h1,h2⟩
theorem KV.put{kvs:List (κ×V)}{vs:List (κ×Value)}(r:KV kvs vs)(k:κ){y:V}{u:Value}(ry:RelV y u):KV (putK kvs k y) (stored vs k u):=by
 unfold putK stored
 rw[r.any k]
 by_cases e:(vs.any fun kv=>decide (kv.1=k))=true
 ·rw[if_pos e,if_pos e];exact r.repl k ry
 ·rw[if_neg e,if_neg e];exact Paired.snoc r ⟨rfl,ry⟩
theorem KV.drop{kvs:List (κ×V)}{vs:List (κ×Value)}(r:KV kvs vs)(k:κ):KV (BW kvs k) (without vs k):=by
 unfold KV at r ⊢
 unfold BW without
 induction r with
 |nil=>exact .nil
 |@cons p q ps qs h t ih =>
  obtain⟨h1,h2⟩:=h
  rw[List.filter_cons,List.filter_cons]
  by_cases e:p.1=k
  ·have a:¬decide (p.1≠k)=true:=by simp[e]
   have b:¬decide (q.1≠k)=true:=by simp[h1.symm.trans e]
   rw[if_neg a,if_neg b];exact ih
  ·have e':¬q.1=k:=fun z=>e (h1.trans z)
   have a:decide (p.1≠k)=true:=by simp[e]
   have b:decide (q.1≠k)=true:=by simp[e']
   rw[if_pos a,if_pos b];exact .cons ⟨h1,h2⟩ ih
theorem KV.length{kvs:List (κ×V)}{vs:List (κ×Value)}(r:KV kvs vs):kvs.length=vs.length:=Paired.length r
theorem Rp(kvs:List (κ×V))(k:κ):(BW kvs k).length≤kvs.length:=List.length_filter_le _ _
end
theorem Jy{P:Program}{w:World}{k:Key}{u:Value}(r:RelV (kV k) u):(e_ P w).is k u=true:=by
 cases k with
 |inl i=>obtain⟨t,e⟩:=(show ∃t,u=Value.int i t from r);subst e;exact zM P w i t
 |inr x=>obtain⟨t,e⟩:=(show ∃t,u=Value.str x t from r);subst e;exact S9 P w x t
theorem Ni{P:Program}{w:World}:∀{ks:List Key} {us:List Value},Vals (ks.map kV) us→ItemsAre (e_ P w) ks us
 |[],_,r=>by rw[List.map_nil]at r;cases r;exact .nil
 |k::ks,_,r=>by
  rw[List.map_cons]at r
  cases r with
  |cons h t=>exact .cons (Jy h) (Ni t)
abbrev KT(H:Hp):List (List Key×V)→List (List Key×Addr×Value)→Prop:=Paired fun p q=>p.1=q.1∧H q.2.1=some (.tup (p.1.map kV))∧RelV p.2 q.2.2
theorem KT.val{H:Hp}{kvs:List (List Key×V)}{xs:List (List Key×Addr×Value)}(r:KT H kvs xs)(k:List Key):zb (j_ kvs k) ((atKey xs k).map (·.2)):=by
 induction r with
 |nil=>exact True.intro
 |@cons p q ps qs h t ih =>
  obtain⟨h1,_,h2⟩:=h
  by_cases e:p.1=k
  ·have e':q.1=k:=h1.symm.trans e
   have b:atKey (q::qs) k=some q.2:=by simp[atKey,List.find?_cons,e']
   rw[Jj e,b];exact h2
  ·have e':¬q.1=k:=fun z=>e (h1.trans z)
   have b:atKey (q::qs) k=atKey qs k:=by simp[atKey,List.find?_cons,e']
   rw[Kw e,b];exact ih
theorem KT.repl{H:Hp}{kvs:List (List Key×V)}{xs:List (List Key×Addr×Value)}(r:KT H kvs xs)(k:List Key){y:V}{u:Value}(ry:RelV y u) :
  KT H (kvs.map fun kv=>if kv.1=k then (kv.1,y)else kv) (xs.map (putAt k u)):=by
 induction r with
 |nil=>exact .nil
 |@cons p q ps qs h t ih =>
  rw[List.map_cons,List.map_cons]
  refine .cons ?_ ih
  obtain⟨h1,h2,h3⟩:=h
  unfold putAt
  by_cases e:p.1=k
  ·rw[if_pos e,if_pos (h1.symm.trans e)];exact⟨h1,h2,ry⟩
  ·rw[if_neg e,if_neg (fun z=>e (h1.trans z))];exact⟨h1,h2,h3⟩
theorem KT.put{H:Hp}{kvs:List (List Key×V)}{xs:List (List Key×Addr×Value)}(r:KT H kvs xs)(k:List Key){b:Addr}{y:V}{u:Value}(hb:H b=some (.tup (k.map kV)))(ry:RelV y u) :
  KT H (putK kvs k y) (storedH xs k b u):=by
 have e:(kvs.any fun kv=>decide (kv.1=k))=(atKey xs k).isSome:=by
  rw[Eu,(r.val k).Bl,Option.isSome_map]
 unfold putK storedH
 rw[e]
 by_cases q:(atKey xs k).isSome=true
 ·rw[if_pos q,if_pos q];exact r.repl k ry
 ·rw[if_neg q,if_neg q];exact Paired.snoc r ⟨rfl,hb,ry⟩
theorem KT.keeps{H H':Hp}{kvs:List (List Key×V)}{xs:List (List Key×Addr×Value)}(r:KT H kvs xs)(ht:∀b ys,H b=some (.tup ys)→H' b=some (.tup ys)):KT H' kvs xs :=
 Paired.ac7 r fun _ _ z=>⟨z.1,ht _ _ z.2.1,z.2.2⟩
section
variable {P:Program}{w:World}{H:Hp}{h:Heap}{a:Addr}
theorem acv{u:HO}(ok:HOk P w H h)(e:Rd H a u):iz P w H h a u:=e.ok ok
theorem Nm{kvs:List (Key×V)}(ok:HOk P w H h)(e:Rd H a (.dK kvs)):kvs.length≤sizeLine∧(a==sysModules)=false∧∃vs,KV kvs vs∧h.DictOf (e_ P w) a vs :=
 show iz P w H h a (.dK kvs)from acv ok e
theorem Sq{kvs:List (Key×V)}(ok:HOk P w H h)(e:H a=some (.dK kvs)):kvs.length≤sizeLine∧(a==sysModules)=false∧∃vs,KV kvs vs∧h.DictOf (e_ P w) a vs:=Nm ok (.inl e)
theorem Qq{ks:List Key}(ok:HOk P w H h)(e:H a=some (.tup (ks.map kV))):(tupleKind (e_ P w)).is h ks a:=by
 obtain⟨_,its,r,o,h1,h2,n,h3⟩:=(show iz P w H h a (.tup (ks.map kV))from ok a _ e)
 exact⟨o,its.toArray,n,h1,h2,h3,by simpa using Ni r⟩
theorem Ra{kvs:List (List Key×V)}(ok:HOk P w H h)(e:Rd H a (.dT kvs)):kvs.length≤sizeLine∧(a==sysModules)=false ∧
  ∃xs,KT H kvs xs∧h.DictOfH (tupleKind (e_ P w)) a xs:=by
 obtain⟨z,y,xs,r,o,es,ep,h1,h2,h3,h4,h5⟩:=(show iz P w H h a (.dT kvs)from acv ok e)
 refine⟨z,y,xs,r,o,es,ep,h1,h2,h3,h4,fun x hx=>?_,h5⟩
 have all:∀{l:List (List Key×V)} {m:List (List Key×Addr×Value)},KT H l m→∀x∈m,(tupleKind (e_ P w)).is h x.1 x.2.1:=by
  intro l m q
  induction q with
  |nil=>intro x hx;exact nomatch hx
  |@cons p q ps qs hq t ih =>
   intro x hx
   rcases List.mem_cons.mp hx with e|hx
   ·subst e
    exact Qq ok (by rw[← hq.1];exact hq.2.1)
   ·exact ih x hx
 exact all r x hx
theorem adI{kvs:List (List Key×V)}(ok:HOk P w H h)(e:H a=some (.dT kvs)):kvs.length≤sizeLine∧(a==sysModules)=false ∧
  ∃xs,KT H kvs xs∧h.DictOfH (tupleKind (e_ P w)) a xs:=Ra ok (.inl e)
end
def Qp(H:Hp)(a:Addr)(y:V)(r:Option V):Prop :=
 (∃kvs k,Rd H a (.dK kvs)∧y=kV k∧r=j_ kvs k)∨∃kvs k b,Rd H a (.dT kvs)∧y=.ref b∧H b=some (.tup (k.map kV))∧r=j_ kvs k
def Yw(H:Hp)(a:Addr)(y v:V)(H':Hp):Prop :=
 (∃kvs k,H a=some (.dK kvs)∧y=kV k∧kvs.length<sizeLine∧H'=upd H a (.dK (putK kvs k v))) ∨
 ∃kvs k b,H a=some (.dT kvs)∧y=.ref b∧H b=some (.tup (k.map kV))∧kvs.length<sizeLine∧H'=upd H a (.dT (putK kvs k v))
theorem Qp.k{H:Hp}{a:Addr}{kvs:List (Key×V)}{k:Key}(e:H a=some (.dK kvs)):Qp H a (kV k) (j_ kvs k):=.inl ⟨kvs,k,.inl e,rfl,rfl⟩
theorem Yw.k{H:Hp}{a:Addr}{kvs:List (Key×V)}{k:Key}{v:V}(e:H a=some (.dK kvs))(hl:kvs.length<sizeLine):Yw H a (kV k) v (upd H a (.dK (putK kvs k v))):=.inl ⟨kvs,k,e,rfl,hl,rfl⟩
section
variable {X:Cx}{pins:List (Addr×Obj)}{σ:St}{H:Hp}{s:Shared}{a:Addr}{y v:V}{u r:Value}{o:Option V}{A:Around}{E:Value→Shared→Prop}
theorem Inv.big(I:Inv X pins σ H s):sysModules<s.heap.objs.size:=by
 have h:mainGlobals<s.heap.objs.size:=(I.mod.glob.keeps I.bk).lt
 exact Nat.lt_trans (by decide) h
theorem Yu{Q:Value→Shared→Prop}(hu:A.units+1<cLine)(I:Inv X pins σ H s)(g:Qp H a y (some v))(ry:RelV y u)(h:∀w' s',Inv X pins σ H s'→RelV v w'→Q w' s') :
  wpAny (model X.prog X.w) A (getItem (.ref a) u) Q E s:=by
 rcases g with ⟨kvs,k,e,ey,l⟩|⟨kvs,k,b,e,ey,eb,l⟩
 ·subst ey
  obtain⟨z,hd,vs,rel,dd⟩:=Nm I.hok e
  obtain⟨w',hw,rw'⟩:=zb.some_of (v:=v) (o:=valueAt vs k) (by rw[l];exact rel.val k)
  exact wpAny_getItem_of (Jy ry) dd.mapOf hw (h w' _ (I.tok _) rw')
 ·subst ey
  cases (show u=Value.ref b from ry)
  obtain⟨z,hd,xs,rel,dd⟩:=Ra I.hok e
  obtain⟨w',hw,rw'⟩:=zb.some_of (v:=v) (o:=(atKey xs k).map (·.2)) (by rw[l];exact rel.val k)
  obtain⟨p,hp,hp2⟩:=Option.map_eq_some_iff.mp hw
  refine wpAny_getItem_heap (tupleKind_room_in1 hu) (Qq I.hok eb) dd hp ?_
  rw[hp2]
  exact h w' _ (I.tok _) rw'
theorem abW{Q:Value→Shared→Prop}(hu:A.units+1<cLine)(I:Inv X pins σ H s)(g:Qp H a y o)(ry:RelV y u)(h:∀s',Inv X pins σ H s'→Q (.bool (!o.isSome)) s') :
  wpAny (model X.prog X.w) A (compareOp .NotIn u (.ref a)) Q E s:=by
 rcases g with ⟨kvs,k,e,ey,l⟩|⟨kvs,k,b,e,ey,eb,l⟩
 ·subst ey
  obtain⟨z,hd,vs,rel,dd⟩:=Nm I.hok e
  refine wpAny_notIn_of (Jy ry) hd dd.mapOf ?_
  rw[← (rel.val k).Bl,← l]
  exact h _ (I.tok _)
 ·subst ey
  cases (show u=Value.ref b from ry)
  obtain⟨z,hd,xs,rel,dd⟩:=Ra I.hok e
  refine wpAny_notIn_heap (tupleKind_room_in1 hu) (Qq I.hok eb) hd dd ?_
  have q:=(rel.val k).Bl
  rw[Option.isSome_map]at q
  rw[← q,← l]
  exact h _ (I.tok _)
theorem Ik{h':Heap}{t':Nat}{ob:HO}(I:Inv X pins σ H s)(mu:Mut (H a))(hs:Heap.SameBut a s.heap h')(he:∃q,h'.get? a=some q)(new:iz X.prog X.w (upd H a ob) h' a ob) :
  Inv X pins σ (upd H a ob) {s with heap:=h',toks:=t'} :=
 I.write (x:=a) (e:=a) mu (.inl rfl) (fun b q hb z=>(hs.2 b hb).trans z) he new
theorem Ug{P:Program}{w:World}{H':Hp}{h':Heap}{kvs:List (Key×V)}{vs:List (Key×Value)}(z:kvs.length≤sizeLine)(hd:(a==sysModules)=false)(rel:KV kvs vs)(dd:h'.DictOf (e_ P w) a vs) :
  iz P w H' h' a (.dK kvs):=⟨z,hd,vs,rel,dd⟩
theorem Ye{H':Hp}{Q:Unit→Shared→Prop}(hu:A.units+1<cLine)(I:Inv X pins σ H s)(g:Yw H a y v H')(ry:RelV y u)(rv:RelV v r)(h:∀s',Inv X pins σ H' s'→Q () s') :
  wpAny (model X.prog X.w) A (setItem (.ref a) u r) Q E s:=by
 rcases g with ⟨kvs,k,e,ey,l,eH⟩|⟨kvs,k,b,e,ey,eb,l,eH⟩
 ·subst ey eH
  obtain⟨z,hd,vs,rel,dd⟩:=Sq I.hok e
  have hz:vs.length≤sizeLine:=by rw[← rel.length];exact z
  have hl:(putK kvs k v).length≤sizeLine:=by have:=Hw kvs k v;omega
  refine wpAny_setItem_pairs (hsz:=hz) (Jy ry) dd fun h' dd' hs=>h _ ?_
  have he:∃q,h'.get? a=some q:=let ⟨q,_,_,hq,_⟩:=dd';⟨q,hq⟩
  exact Ik I (by rw[e];exact True.intro) hs he (Ug hl hd (rel.put k rv) dd')
 ·subst ey eH
  cases (show u=Value.ref b from ry)
  obtain⟨z,hd,xs,rel,dd⟩:=adI I.hok e
  have hz:xs.length≤sizeLine:=by rw[← Paired.length rel];exact z
  have hl:(putK kvs k v).length≤sizeLine:=by have:=Hw kvs k v;omega
  refine wpAny_setItem_heap (hsz:=hz) (tupleKind_room_in1 hu) (Qq I.hok eb) dd fun h' dd' hs=>h _ ?_
  obtain⟨q,es,ep,hq,h2,h3,h4,_,h5⟩:=dd'
  refine Ik I (by rw[e];exact True.intro) hs ⟨q,hq⟩ ⟨hl,hd,_,(rel.put k eb rv).keeps fun c ys ec=>?_,q,es,ep,hq,h2,h3,h4,h5⟩
  rw[aO (cB ec e (fun z=>nomatch z))]
  exact ec
end
section
variable {X:Cx}{pins:List (Addr×Obj)}{σ:St}{H:Hp}{s:Shared}{a:Addr}{kvs:List (Key×V)}{k:Key}{u:Value}{A:Around}{E:Value→Shared→Prop}
theorem adA{Q:Unit→Shared→Prop}(I:Inv X pins σ H s)(e:H a=some (.dK kvs))(ry:RelV (kV k) u)(l:(j_ kvs k).isSome=true)(h:∀s',Inv X pins σ (upd H a (.dK (BW kvs k))) s'→Q () s') :
  wpAny (model X.prog X.w) A (delItem (.ref a) u) Q E s:=by
 obtain⟨z,hd,vs,rel,dd⟩:=Sq I.hok e
 refine wpAny_delItem_slot dd.typeIs (by decide) PySem.F.slot_dict_delitem
  (call_meetsIn PySem.F.slot_dict_delitem dd.typeIs PySem.F.entry_dict_delitem (PySem.F.args_dict_delitem_2 _ _) (meets_dict_delitem_pairs (e_ X.prog X.w) a (Jy ry)) ⟨vs,dd,by rw[← rel.length];exact z,by rw[← (rel.val k).Bl];exact l,fun h' dd' hs=>h _ ?_⟩)
 have he:∃q,h'.get? a=some q:=let ⟨q,_,_,hq,_⟩:=dd';⟨q,hq⟩
 exact Ik I (by rw[e];exact True.intro) hs he (Ug (Nat.le_trans (Rp kvs k) z) hd (rel.drop k) dd')
theorem adZ{v:V}{more:List Value}{Q:Value→Shared→Prop}(I:Inv X pins σ H s)(e:H a=some (.dK kvs))(ry:RelV (kV k) u)(l:j_ kvs k=some v)(hm:more=[]∨∃x,more=[x])
  (h:∀w' s',Inv X pins σ (upd H a (.dK (BW kvs k))) s'→RelV v w'→Q w' s'):wpAny (model X.prog X.w) A (call (.builtin "dict.pop") (.ref a::u::more)) Q E s:=by
 obtain⟨z,hd,vs,rel,dd⟩:=Sq I.hok e
 obtain⟨w',hw,rw'⟩:=zb.some_of (v:=v) (o:=valueAt vs k) (by rw[← l];exact rel.val k)
 have hp:(keyPart u).isSome=true:=by
  cases k with
  |inl i=>obtain⟨t,q⟩:=(show ∃t,u=Value.int i t from ry);subst q;rfl
  |inr x=>obtain⟨t,q⟩:=(show ∃t,u=Value.str x t from ry);subst q;rfl
 have ha:argsOk "dict.pop" ⟨.ref a::u::more,[]⟩:=by
  rcases hm with q|⟨x,q⟩
  ·subst q;exact PySem.F.args_dict_pop_2 _ _
  ·subst q;exact PySem.F.args_dict_pop_3 _ _ _
 refine call_meetsIn PySem.F.slot_dict_pop dd.typeIs PySem.F.entry_dict_pop ha (meets_dict_pop_there (e_ X.prog X.w) a (Jy ry) more hm hp)
  ⟨vs,w',dd,by rw[← rel.length];exact z,hw,fun h' dd' hs=>h w' _ ?_ rw'⟩
 have he:∃q,h'.get? a=some q:=let ⟨q,_,_,hq,_⟩:=dd';⟨q,hq⟩
 exact Ik I (by rw[e];exact True.intro) hs he (Ug (Nat.le_trans (Rp kvs k) z) hd (rel.drop k) dd')
theorem ad8{Q:Value→Shared→Prop}(I:Inv X pins σ H s)(e:Rd H a (.dK kvs))(h:∀t s',Inv X pins σ H s'→Q (.int kvs.length t) s'):wpAny (model X.prog X.w) A (call (.builtin "len") [.ref a]) Q E s:=by
 obtain⟨z,hd,vs,rel,dd⟩:=Nm I.hok e
 refine call_len_dict hd dd (by rw[← rel.length];rw[sizeLine_eq]at z;omega) ?_
 rw[← rel.length]
 exact h _ _ (I.tok _)
end
def acw(i:Expr):Prop:=∀ov iv,subscripted i false ov iv=operate [ov,iv] (getItem ov iv)
theorem Xc{prog:Program}{w:World}{A:Around}{E:Value→Shared→Prop}{s:Shared}{env:Env}{value slice:Expr}{pos:Pos}{T id:String}{Q:Value→Shared→Prop}
  (hl:typeLookup (.type T) "__getitem__" = pure (some (.builtin id))) (hs:acw slice)
  (h:wpAny (model prog w) A (eval value env) (fun o s₁=>wpAny (model prog w) A (eval slice env) (fun i s₂=>s₂.TypeIs o T∧wpAny (model prog w) A (getItem o i) Q E s₂) E s₁) E s) :
  wpAny (model prog w) A (eval (.Subscript value slice pos) env) Q E s:=by
 refine Subscript_ (wpAny_mono h (fun o s₁ h₁=>wpAny_mono h₁ (fun i s₂ h₂=>?_) fun _ _ x=>x) fun _ _ x=>x)
 obtain⟨hT,h₂⟩:=h₂
 unfold subscriptTail
 refine wpAny_bind ?_
 rw[getitemInPython_of_ne hT.not_modules]
 refine wpAny_bind (wpAny_specialOf hT hl ?_)
 have fin:wpAny (model prog w) A (subscripted slice false o i) (fun r s₃=>wpAny (model prog w) A (letTemporaryGo value o r >>= fun _=>pure r) Q E s₃) E s₂:=by
  rw[hs o i]
  exact wpAny_operating (wpAny_mono h₂ (fun r s₃ h₃=>wpAny_bind (wpAny_letTemporaryGo (wpAny_pure h₃))) fun _ _ x=>x)
 first
  |exact wpAny_pure (wpAny_bind fin)
  |exact wpAny_bind (wpAny_pure (wpAny_bind fin))
  |exact wpAny_bind fin
theorem Rb{X:Cx}{pins:List (Addr×Obj)}{σ:St}{H:Hp}{s:Shared}{a:Addr}{y:V}{o:Option V}(I:Inv X pins σ H s)(g:Qp H a y o):s.TypeIs (.ref a) "dict":=by
 rcases g with ⟨kvs,k,e,_,_⟩|⟨kvs,k,b,e,_,_,_⟩
 ·obtain⟨_,_,vs,_,dd⟩:=Nm I.hok e
  exact dd.typeIs
 ·obtain⟨_,_,xs,_,dd⟩:=Ra I.hok e
  exact dd.typeIs
def aa3(td ty:TE):TE:=fun σ H Q=>td σ H fun x H1=>ty σ H1 fun y H2=>∃a v,x=.ref a∧Qp H2 a y (some v)∧Q v H2
def Wn(ty td:TE):TE:=fun σ H Q=>ty σ H fun y H1=>td σ H1 fun x H2=>∃a o,x=.ref a∧Qp H2 a y o∧Q (.bl (!o.isSome)) H2
def Zr(td ty tv:TE):TS:=fun D σ H=>tv σ H fun v H1=>td σ H1 fun x H2=>ty σ H2 fun y H3=>∃a H4,x=.ref a∧Yw H3 a y v H4∧D.nx σ H4
section
variable {X:Cx}{o i e value:Expr}{pos pos' tpos:Pos}{td ty tv:TE}
theorem cM(hu:X.A.units+1<cLine)(ho:PE X o td)(hi:PE X i ty)(hs:acw i):PE X (.Subscript o i pos) (aa3 td ty):=by
 intro pins s σ H Q I h
 refine Xc PySem.F.slot_dict_getitem.lookup hs (thn (ho pins s σ H _ I h) fun u s1 ⟨x,H1,I1,rx,q1⟩=>thn (hi pins s1 σ H1 _ I1 q1) fun iv s2 ⟨y,H2,I2,ry,a,v,ex,g,q2⟩=>?_)
 subst ex
 obtain rfl:u=Value.ref a:=rx
 exact⟨Rb I2 g,Yu hu I2 g ry fun w' s3 I3 rw'=>⟨v,H2,I3,rw',q2⟩⟩
theorem NB(hu:X.A.units+1<cLine)(hi:PE X i ty)(ho:PE X o td):PC X .NotIn i o (Wn ty td):=by
 intro pins s σ H Q I h
 refine thn (hi pins s σ H _ I h) fun iv s1 ⟨y,H1,I1,ry,q1⟩=>thn (ho pins s1 σ H1 _ I1 q1) fun u s2 ⟨x,H2,I2,rx,a,ov,ex,g,q2⟩=>?_
 subst ex
 obtain rfl:u=Value.ref a:=rx
 exact abW hu I2 g ry fun s3 I3=>⟨.bl (!ov.isSome),H2,I3,rfl,q2⟩
theorem Bd(hu:X.A.units+1<cLine)(ho:PE X o td)(hi:PE X i ty)(hv:PE X value tv)(hs:swapsWith value (some (.Subscript o i pos')) pos.line X.env=pure false) :
  PS X (.Assign [.Subscript o i pos'] value pos) (Zr td ty tv):=by
 intro pins s σ H D I h
 refine wpAny_Assign_Subscript (thn (hv pins s σ H _ I h) fun r s1 ⟨v,H1,I1,rv,q1⟩=>thn (ho pins s1 σ H1 _ I1 q1) fun u s2 ⟨x,H2,I2,rx,q2⟩=>thn (hi pins s2 σ H2 _ I2 q2) fun iv s3 ⟨y,H3,I3,ry,a,H4,ex,g,q3⟩=>?_) hs
 subst ex
 obtain rfl:u=Value.ref a:=rx
 exact Ye hu I3 g ry rv fun s4 I4=>⟨σ,H4,I4,q3⟩
end
theorem aa0{P:Program}{w:World}{H:Hp}(h:Heap)(hb:sysModules<h.objs.size):iz P w H (h.push {cls:=.type "dict",data:=.dict #[]}) h.objs.size (.dK []) :=
 ⟨Nat.zero_le _,beq_eq_false_iff_ne.mpr (Ne.symm (Nat.ne_of_lt hb)),[],.nil,Heap.DictOf.new h⟩
def Ze:TE:=fun _ H Q=>∀p,H p=none→Q (.ref p) (upd H p (.dK []))
section
variable {X:Cx}{pos:Pos}
theorem EY:PE X (.Dict [] [] pos) Ze:=fun pins s σ H Q I h =>
 wpAny_Dict_empty ⟨.ref s.heap.objs.size,_,I.laid (a:=s.heap.objs.size) (o:=.dK []) (t':=s.toks) (fun _ _ q=>Heap.get?_push_of_some _ q) (Nat.le_refl _) (aa0 s.heap I.big),rfl,h _ (I.hok.fresh (Nat.le_refl _))⟩
end
structure M1(X:Cx)(o:Expr)(m:Str)(apos:Pos)(e:Expr)(cpos:Pos):Prop where
 base:attributeBase o m X.env (eval o X.env)=eval o X.env
 few:((backTo cpos (starEach [e] X.env)).all (fun x=>!x.1)&&(backToKw cpos (keywordEach [] X.env)).all (fun x=>x.1.isSome)
  && decide (([e]:List Expr).length+([]:List Keyword).length+(if ([]:List Keyword).isEmpty then 0 else 1)<30))=true
 line:(apos.endLine==cpos.line)=true
 trees:backTo cpos (starEach [e] X.env)=[(false,eval e X.env)]
def IsD(H:Hp)(a:Addr):Prop:=(∃kvs,Rd H a (.dK kvs))∨∃kvs,Rd H a (.dT kvs)
theorem adm{X:Cx}{pins:List (Addr×Obj)}{σ:St}{H:Hp}{s:Shared}{a:Addr}(I:Inv X pins σ H s)(d:IsD H a) :
  s.TypeIs (.ref a) "dict"∧(∀b,Value.ref a=.ref b→∃ob,s.heap.get? b=some ob∧ob.dict=none)∧(a==sysModules)=false:=by
 rcases d with ⟨kvs,e⟩|⟨kvs,e⟩
 ·obtain⟨_,hd,vs,_,dd⟩:=Nm I.hok e
  refine⟨dd.typeIs,fun b q=>?_,hd⟩
  cases q
  obtain⟨ob,_,_,h1,h2,_⟩:=dd
  exact⟨ob,h1,h2.2.1⟩
 ·obtain⟨_,hd,xs,_,dd⟩:=Ra I.hok e
  refine⟨dd.typeIs,fun b q=>?_,hd⟩
  cases q
  obtain⟨ob,_,_,h1,h2,_⟩:=dd
  exact⟨ob,h1,h2.2.1⟩
def ZL(td ty:TE):TE:=fun σ H Q=>td σ H fun x H1=>∃a,x=.ref a∧IsD H1 a∧ty σ H1 fun y H2=>∃kvs k v,H2 a=some (.dK kvs)∧y=kV k∧j_ kvs k=some v∧Q v (upd H2 a (.dK (BW kvs k)))
section
variable {X:Cx}{o e f:Expr}{apos cpos:Pos}{td ty tx:TE}
theorem aax(ho:PE X o td)(he:PE X e ty)(m:M1 X o "pop" apos e cpos):PE X (.Call (.Attribute o "pop" apos) [e] [] cpos) (ZL td ty):=by
 intro pins s σ H Q I h
 refine wpAny_Call_method m.base m.few m.line PySem.F.plainAttrs_dict PySem.F.slot_dict_pop PySem.F.type_dict_pop (thn (ho pins s σ H _ I h) fun u s1 ⟨x,H1,I1,rx,a,ex,d,q1⟩=>?_)
 subst ex
 obtain rfl:u=Value.ref a:=rx
 obtain⟨t1,t2,_⟩:=adm I1 d
 refine⟨t1,t2,?_⟩
 rw[m.trees]
 refine Calls.callWith_builtin rfl (Calls.evalArgs_plain (Calls.spliced_cons (thn (he pins s1 σ H1 _ I1 q1) fun iv s2 ⟨y,H2,I2,ry,kvs,k,v,ea,ey,l,q2⟩=>Calls.spliced_nil ?_)))
 subst ey
 exact adZ I2 ea ry l (.inl rfl) fun w' s3 I3 rw'=>⟨v,_,I3,rw',q2⟩
end
end L2
namespace L2
open PySem PySem.Spec PyProof.Rows
end L2
namespace L2
open PySem PySem.Spec PyProof.Rows
section
variable {X:Cx}
theorem adb{tg:Expr}{pins:List (Addr×Obj)}{σ:St}{H:Hp}{s:Shared}{R:It→Hp→Prop}{J:It}{tn:Nat→Heap→Prop}{tk:Nat}(I:Inv X pins σ H s)(o:Obj)
  (T:Turn X.prog X.w X.K tg J [s.heap.objs.size] s.heap.objs.size tn) (st:tn 0 (s.heap.push o)) (q:R J H):PIE X pins σ tg R (.ref s.heap.objs.size) {s with heap:=s.heap.push o,toks:=tk}:=by
 refine⟨s.heap.objs.size,[s.heap.objs.size],tn,J,H,rfl,I.kept fun b ob e=>Heap.get?_push_of_some _ e,T,st,fun b hb=>?_,q⟩
 have e:b=s.heap.objs.size:=by simpa using hb
 subst e
 exact I.Yo (Nat.le_refl _) (I.hok.fresh (Nat.le_refl _))
end
def Itc(lo c:Int)(n:Nat):It:=⟨fun i _=>i<n,fun i H x H'=>H'=H∧x=.int (lo+(i:Nat) * c),fun i _=>n≤i⟩
theorem Rk{P:Program}{w:World}{K:PySem.W.Frag}{tg:Expr}(it:Addr)(lo c:Int)(n:Nat):Turn P w K tg (Itc lo c n) [it] it (fun i h=>IsRangeIter h it (lo+(i:Nat) * c) ((n:Int) - (i:Nat)) c) where
 mem:=by simp
 obj:=fun i h st b hb=>by
  have e:b=it:=by simpa using hb
  subst e
  exact⟨_,st,fun v z=>nomatch z⟩
 keep:=fun i h h' st k=>k it (by simp) _ st
 item:=by
  intro X hP hw hK hc i pins s σ H E I hf st hg
  subst hP hw hK
  obtain⟨f0,f1,f2,f3,f4,f5⟩:=hf it (by simp)
  have W:=Walks.range (prog:=X.prog) (w:=X.w) (I.ok.hd hc) it lo c n
  refine W.item i s _ _ hg st fun v h' tk hv st' kk=>?_
  obtain⟨t,rfl⟩:=hv
  have I1:Inv X pins σ H {s with heap:=h',toks:=tk}:=I.turned (fun b o hb e=>kk b o (by simpa using hb) e) f0 f1 f3 f4 f5
  exact⟨_,rfl,aah (s:={s with heap:=h',toks:=tk}) (n:="range_iterator") st' rfl rfl (by decide) ⟨.int (lo+(i:Nat) * c),H,I1,⟨t,rfl⟩,⟨rfl,rfl⟩,st',fun b hb=>(hf b hb).1⟩⟩
 done:=by
  intro X hP hw hK hc i pins s σ H E I hf st hg
  subst hP hw hK
  obtain⟨f0,f1,f2,f3,f4,f5⟩:=hf it (by simp)
  exact wpAny_pyNext_range_end (I.ok.hd hc) st (by have:n≤i:=hg;omega) fun h' eb=>⟨rfl,I.turned (t':=s.toks) (fun b o hb e=>eb b o hb e) f0 f1 f3 f4 f5⟩
 self:=fun A i s Q E st h=>wpAny_pyIter_rangeiter st h
def RgC(i j c:Int)(n:Nat):Prop:=c≠0∧c.natAbs<1073741824∧Builtin.Range.small i j c=true∧Builtin.Range.rangeSize i j c=n
def acd(ta:TA):TI:=fun σ H R=>ta σ H fun vs H1=>∃(i j c:Int) (n:Nat),vs=[.int i,.int j,.int c]∧RgC i j c n∧R (Itc i c n) H1
section
variable {X:Cx}{tg:Expr}
theorem Xj{a b c:Expr}{ta:TA}{p pos:Pos}(hg:Gl X "range")(hm:X.mg "range" = none)(ha:PA X [a,b,c] ta)
  (hs:starEach [a,b,c] X.env=(false,eval a X.env)::starEach [b,c] X.env:=by rfl) (hpl:(backTo pos (starEach [b,c] X.env)).any (·.1)=false:=by rfl) :
  PI X tg (.Call (.Name "range" p) [a,b,c] [] pos) (acd ta):=by
 intro pins s σ H R I h
 refine Call_ (CK I hg hm boot_range (PyProof.Rows.callWith_type1 (thn (ha pos pins s σ H _ I h) fun us s1 ⟨vs,H1,I1,r1,q1⟩=>?_) hs hpl))
 obtain⟨i,j,k,n,e,⟨c0,c1,c2,c3⟩,q⟩:=q1
 subst e
 cases r1 with
 |cons r rr =>
  cases rr with
  |cons r' rr =>
   cases rr with
   |cons r'' rr =>
    cases rr
    obtain⟨t,rfl⟩:=r
    obtain⟨t',rfl⟩:=r'
    obtain⟨t'',rfl⟩:=r''
    refine call_range_3 c0 ?_ (.inl (PyProof.noPylong_small c1))
    refine wpAny_pyIter_range (IsRange.new ..) c2 ?_
    have I2:Inv X pins σ H1 {s1 with heap:=s1.heap.push {cls:=.type "range",data:=.fields #[.int i t,.int j t',.int k t'']}}:=I1.kept (t':=s1.toks) fun b o e=>Heap.get?_push_of_some _ e
    refine adb (tk:=s1.toks) I2 _ (Rk _ i k n) ?_ q
    have e1:i+((0:Nat):Int) * k=i:=by simp
    have e2:(n:Int) - ((0:Nat):Int)=Builtin.Range.rangeSize i j k:=by rw[c3];simp
    show IsRangeIter _ _ (i+((0:Nat):Int) * k) ((n:Int) - ((0:Nat):Int)) k
    rw[e1,e2]
    exact Heap.get?_push_size _ rfl
end
theorem V8{α β:Type}{G:α→β→Prop}{l₁:List α}{l₂:List β}(h:Paired G l₁ l₂):∀{i:Nat} {a:α},l₁[i]?=some a→∃b,l₂[i]?=some b∧G a b:=by
 induction h with
 |nil=>intro i a e;simp at e
 |@cons a b l₁ l₂ r t ih =>
  intro i a' e
  cases i with
  |zero =>
   simp only[List.getElem?_cons_zero,Option.some.injEq]at e
   subst e
   exact⟨b,rfl,r⟩
  |succ j =>
   simp only[List.getElem?_cons_succ]at e ⊢
   exact ih e
end L2
namespace L2
open PySem PySem.Spec PyProof.Rows
def inClass(s:Stmt)(j:Nat):Stmt:=match s with
 |.ClassDef _ _ _ body _ _ _ _ _ _ _=>body.getD j (.Pass ⟨0,0,0,0⟩)
 |_=>.Pass ⟨0,0,0,0⟩
def vH(s:Stmt):Arguments:=match s with
 |.FunctionDef _ a _ _ _ _ _ _ _ _=>a
 |_=>{posonlyargs:=[],args:=[],vararg:=none,kwonlyargs:=[],kw_defaults:=[],kwarg:=none,defaults:=[]}
def ql(s:Stmt):List Stmt:=match s with
 |.FunctionDef _ _ b _ _ _ _ _ _ _=>b
 |_=>[]
def aA(s:Stmt):Scope:=match s with
 |.FunctionDef _ _ _ _ _ _ sc _ _ _=>sc
 |_=>{kind:=.function,names:=[],isGenerator:=false,isCoroutine:=false}
abbrev CX0:CXT:=fun _ _ _ _ _ _=>False
abbrev E0:XK:=fun _ _ _=>False
theorem RK{X:Cx}:Passes CX0 X E0:=fun _ _ _ _ _ _ _ h=>h.elim
structure Fun(K:PySem.W.Frag)(x qual:Str)(st:Stmt)(f:Addr)(fd:FuncData):Prop where
 ex:∃(oc:Value) (od:Option Addr) (kV doc pm:Value) (an:Option Addr) (cdv ct:Value) (osl:Array (Option Value)),
  fd=PySem.W.fnOf x qual (vH st) (ql st) (aA st) .none kV doc pm an cdv ct∧K.lookup f=some ⟨oc,od,.func fd,osl⟩∧PySem.W.codeIn K cdv qual=true
 kp:PySem.W.keepIn K (.ref f)=true
section
variable {P:Program}{w:World}{K:PySem.W.Frag}{mg:Str→Option Value}{base:Heap}
theorem Fun.ok{x qual:Str}{st:Stmt}{f:Addr}{fd:FuncData}{N ps:List Str}{k:Nat}{sp:Sp}(F:Fun K x qual st f fd)(S:aG N ps (aA st))(len:∀vs H Q E,sp vs H Q E→vs.length=ps.length)
  (hbody:∀(cdv:Value) (A:Around) (outer:List Env) (s:Shared) (H:Hp) (vs:List V) (Q:VK) (E:XK),jF k (A.deeper (envOfC qual (aA st) s.heap.objs.size f cdv))→sp vs H Q E →
   ∃t,PSs (Mp CX0 P w K mg base N qual (aA st) f cdv A outer s H E).nox (ql st) t∧t {nx:=fun _ H'=>Q .non H',rt:=Q} (start N vs) H):bG P w K mg base CX0 (k+1) f fd ps sp:=by
 obtain⟨oc,od,kV,doc,pm,an,cdv,ct,osl,rfl,lk,hcd⟩:=F.ex
 refine acq lk hcd S len fun A outer s H vs Q E hr hsp=>?_
 obtain⟨t,h,q⟩:=hbody cdv A outer s H vs Q E hr hsp
 exact⟨t,h.nox,q⟩
theorem Fun.binds{x qual:Str}{st:Stmt}{f:Addr}{fd:FuncData}{ps:List Str}(F:Fun K x qual st f fd)
  (h:∀(kV doc pm:Value) (an:Option Addr) (cdv ct:Value) (us:List Value),us.length=ps.length→bindArgs (PySem.W.fnOf x qual (vH st) (ql st) (aA st) .none kV doc pm an cdv ct) ⟨us,[]⟩=pure (ps.zip us)):Binds K fd ps []:=by
 obtain⟨oc,od,kV,doc,pm,an,cdv,ct,osl,rfl,lk,hcd⟩:=F.ex
 exact .all (h kV doc pm an cdv ct)
theorem Q0{x qual:Str}{st:Stmt}{f:Addr}{oc:Value}{od an:Option Addr}{osl:Array (Option Value)}{kV doc pm cdv ct:Value}(l:K.lookup f=some ⟨oc,od,.func (PySem.W.fnOf x qual (vH st) (ql st) (aA st) .none kV doc pm an cdv ct),osl⟩)
  (c:PySem.W.codeIn K cdv qual=true) (k:PySem.W.keepIn K (.ref f)=true):Fun K x qual st f (PySem.W.fnOf x qual (vH st) (ql st) (aA st) .none kV doc pm an cdv ct):=⟨⟨oc,od,kV,doc,pm,an,cdv,ct,osl,rfl,l,c⟩,k⟩
end
theorem eF{A:Around}{k:Nat}(hr:jF k A):A.units+1<cLine:=Nat.lt_of_le_of_lt (Nat.add_le_add_left (by decide:1≤64) _) hr.units
section
variable {X:Cx}
theorem pv(i:Nat){x:Str}{pos:Pos}(hN:X.N[i]?=some x:=by rfl)(hv:Vis X.env.scope x:=by first | exact Or.inl rfl | exact Or.inr (Or.inl rfl) | exact Or.inr (Or.inr rfl))(hd:(x==("__debug__" : Str))=false:=by decide)
  (hcd:(x==("__classdict__" : Str))=false:=by decide):PE X (.Name x pos) (b8 i):=adn hN hv hd hcd
theorem Nr:yH X (.builtin "len") (fun xs H Q=>∃a kvs,xs=[V.ref a]∧H a=some (.dK kvs)∧Q (.int kvs.length) H):=by
 intro pins s σ H xs us Q I r h
 obtain⟨a,kvs,rfl,ha,q⟩:=h
 obtain⟨u,rfl,ru⟩:=vals1 r
 cases ru
 exact ad8 I (.inl ha) fun t s' I'=>⟨.int kvs.length,H,I',⟨t,rfl⟩,q⟩
end
theorem HS{A B:Prop}(h:B):if false=true then A else B:=by
 rw[if_neg Bool.false_ne_true]
 exact h
theorem Ib{A B:Prop}(h:A):if true=true then A else B:=by
 rw[if_pos rfl]
 exact h
def aY(H H':Hp):Prop:=∀b o,H b=some o→H' b=some o
theorem aY.refl(H:Hp):aY H H:=fun _ _ h=>h
theorem aY.trans{H H1 H2:Hp}(a:aY H H1)(b:aY H1 H2):aY H H2:=fun c o h=>b c o (a c o h)
theorem aY.free{H H':Hp}(e:aY H H'){l:Addr}(h:H' l=Option.none):H l=Option.none:=by
 cases q:H l with
 |none=>rfl
 |some o =>
  rw[e l o q]at h
  cases h
theorem aci{α:Type}{l:List α}(hN:l.Nodup){i j:Nat}{x:α}(a:l[i]?=some x)(b:l[j]?=some x):i=j:=by
 obtain⟨h1,e1⟩:=List.getElem?_eq_some_iff.mp a
 obtain⟨h2,e2⟩:=List.getElem?_eq_some_iff.mp b
 exact(List.getElem_inj hN).mp (e1.trans e2.symm)
end L2
end
section
set_option Elab.async false
set_option linter.all false
set_option maxRecDepth 100000
namespace L2
open PySem PySem.Spec PyProof.Rows
def EvP(t:TE)(σ:St)(H:Hp)(R:V→Hp→Prop):Prop:=∀H1,aY H H1→∀Q:VK,(∀v H',aY H1 H'→R v H'→Q v H')→t σ H1 Q
abbrev Ev(t:TE)(σ:St)(H:Hp)(v:V):Prop:=EvP t σ H fun u _=>u=v
def EvT(t:TT)(σ:St)(H:Hp)(b:Bool):Prop:=∀H1,aY H H1→∀Q:Bool→Hp→Prop,(∀H',aY H1 H'→Q b H')→t σ H1 Q
def EvA(t:TA)(σ:St)(H:Hp)(R:List V→Hp→Prop):Prop:=∀H1,aY H H1→∀Q:List V→Hp→Prop,(∀vs H',aY H1 H'→R vs H'→Q vs H')→t σ H1 Q
abbrev Bt(t:TA)(σ:St)(H:Hp)(xs:List V):Prop:=EvA t σ H fun us _=>us=xs
def IsL(xs:List V)(v:V)(H:Hp):Prop:=∃l,v=.ref l∧H l=some (.lst xs)
abbrev EvL(t:TE)(σ:St)(H:Hp)(xs:List V):Prop:=EvP t σ H (IsL xs)
theorem IsL.up{xs:List V}{v:V}{H H':Hp}(h:IsL xs v H)(s:aY H H'):IsL xs v H':=let ⟨l,e,q⟩:=h;⟨l,e,s _ _ q⟩
def Tz(R:V→Hp→Prop):Prop:=∀v H H',aY H H'→R v H→R v H'
section
variable {t ta tb tc:TE}{tt tu:TT}{u:TA}{σ:St}{H H':Hp}{R R1 R2':V→Hp→Prop}{v w x y:V}{b c:Bool}{xs ys zs:List V}{K:PySem.W.Frag}{a l:Addr}
theorem EvP.use(h:EvP t σ H R){Q:VK}(k:∀v H',aY H H'→R v H'→Q v H'):t σ H Q:=h H (aY.refl H) Q k
theorem Ev.use(h:Ev t σ H v){Q:VK}(k:∀H',aY H H'→Q v H'):t σ H Q:=h H (aY.refl H) Q fun u H' s e=>by subst e;exact k H' s
theorem EvA.use{R:List V→Hp→Prop}(h:EvA u σ H R){Q:List V→Hp→Prop}(k:∀v H',aY H H'→R v H'→Q v H'):u σ H Q:=h H (aY.refl H) Q k
theorem EvP.up(h:EvP t σ H R)(s:aY H H'):EvP t σ H' R:=fun H1 s1=>h H1 (s.trans s1)
theorem EvP.imp(h:EvP t σ H R)(k:∀v H',aY H H'→R v H'→R1 v H'):EvP t σ H R1:=fun H1 s Q q=>h H1 s Q fun v H' s' r=>q v H' s' (k v H' (s.trans s') r)
theorem Ev.cast(h:Ev t σ H v)(e:v=w):Ev t σ H w:=e▸h
theorem EvT.cast(h:EvT tt σ H b)(e:b=c):EvT tt σ H c:=e▸h
theorem EvL.cast(h:EvL t σ H xs)(e:xs=ys):EvL t σ H ys:=e▸h
theorem Ev.toL(h:Ev t σ H (.ref l))(e:H l=some (.lst xs)):EvL t σ H xs:=h.imp fun v H' s q=>⟨l,q,s _ _ e⟩
theorem aa{i:Nat}(h:σ[i]?=some (some v)):Ev (b8 i) σ H v:=fun H1 s Q k=>⟨v,h,k v H1 (aY.refl _) rfl⟩
theorem QB{i:Nat}(h:σ[i]?=some (some v))(r:R v H)(m:Tz R):EvP (b8 i) σ H R:=fun H1 s Q k=>⟨v,h,k v H1 (aY.refl _) (m _ _ _ s r)⟩
theorem aJ:Ev (tC v) σ H v:=fun H1 s Q k=>k v H1 (aY.refl _) rfl
theorem b_{C dx:Addr}{fs:List (Str×V)}{f:Str}(ha:Ev ta σ H (.ref a))(e:H a=some (.ins C dx fs))(c:Cls K C)(n:cJ K C f)(l:fs.lookup f=some v):Ev (j4 K ta f) σ H v :=
 fun H1 s Q k=>ha H1 s _ fun x H2 s2 e2=>⟨a,C,dx,fs,v,e2,s2 _ _ (s _ _ e),c,n,l,k v H2 s2 rfl⟩
theorem Om{r:R2}(ha:Ev ta σ H x)(hb:Ev tb σ H y)(hr:∀H1 (Q:VK),aY H H1→(∀v H',aY H1 H'→R v H'→Q v H')→r x y H1 Q):EvP (tOp r ta tb) σ H R :=
 fun H1 s Q k=>ha H1 s _ fun x' H2 s2 e=>by
  subst e
  exact hb H2 (s.trans s2) _ fun y' H3 s3 e=>by
   subst e
   exact hr H3 Q (s.trans (s2.trans s3)) fun v H' s' q=>k v H' (s2.trans (s3.trans s')) q
theorem eY{g:Int→Int→V}{i j:Int}(ha:Ev ta σ H (.int i))(hb:Ev tb σ H (.int j)):Ev (tOp (rI0 g) ta tb) σ H (g i j) :=
 Om ha hb fun H1 Q s k=>⟨i,j,rfl,rfl,k _ H1 (aY.refl _) rfl⟩
theorem Io{C:Int→Int→Prop}{g:Int→Int→V}{i j:Int}(ha:Ev ta σ H (.int i))(hb:Ev tb σ H (.int j))(hc:C i j):Ev (tOp (rI C g) ta tb) σ H (g i j) :=
 Om ha hb fun H1 Q s k=>⟨i,j,rfl,rfl,hc,k _ H1 (aY.refl _) rfl⟩
theorem ab7(ha:Ev ta σ H x)(hb:Ev tb σ H y)(e:abe x y=true):Ev (tOp rEq ta tb) σ H (.bl (decide (x=y))) :=
 Om ha hb fun H1 Q s k=>⟨e,k _ H1 (aY.refl _) rfl⟩
theorem adQ(ha:Ev ta σ H x)(hb:Ev tb σ H y)(e:abe x y=true):Ev (tOp rNe ta tb) σ H (.bl (!decide (x=y))) :=
 Om ha hb fun H1 Q s k=>⟨e,k _ H1 (aY.refl _) rfl⟩
theorem bY{i j:Int}(ha:Ev ta σ H (.int i))(hb:Ev tb σ H (.int j)):Ev (tOp rEq ta tb) σ H (.bl (decide (i=j))) :=
 (ab7 ha hb rfl).cast (by congr 1;rw[Bool.eq_iff_iff];simp)
theorem fM{i j:Int}(ha:Ev ta σ H (.int i))(hb:Ev tb σ H (.int j)):Ev (tOp rNe ta tb) σ H (.bl (!decide (i=j))) :=
 (adQ ha hb rfl).cast (by congr 1;rw[Bool.eq_iff_iff];simp)
theorem aag{i j:Bool}(ha:Ev ta σ H (.bl i))(hb:Ev tb σ H (.bl j)):Ev (tOp rEq ta tb) σ H (.bl (i==j)) :=
 (ab7 ha hb rfl).cast (by congr 1;rw[Bool.eq_iff_iff];simp)
theorem QL(ha:Ev ta σ H x)(hb:Ev tb σ H .non):Ev (tOp (fun x y H Q=>y=.non∧Q (.bl (decide (x=.non))) H) ta tb) σ H (.bl (decide (x=.non))) :=
 Om ha hb fun H1 Q s k=>⟨rfl,k _ H1 (aY.refl _) rfl⟩
theorem Zv{i:Int}(ha:Ev ta σ H (.int i)):Ev (tUn (rU fun i=>.int (-i)) ta) σ H (.int (-i)):=fun H1 s Q k=>ha H1 s _ fun x H2 s2 e=>⟨i,e,k _ H2 s2 rfl⟩
theorem gk{p q:Int→Int→Bool}{i j n:Int}(ha:Ev ta σ H (.int i))(hb:Ev tb σ H (.int j))(hc:Ev tc σ H (.int n)) :
  Ev (UT (rI0 fun i j=>.bl (p i j)) (rI0 fun i j=>.bl (q i j)) ta tb tc) σ H (.bl (p i j&&q j n)):=fun H1 s Q k =>
 ha H1 s _ fun x' H2 s2 e=>by
  subst e
  refine hb H2 (s.trans s2) _ fun y' H3 s3 e=>?_
  subst e
  refine⟨i,j,rfl,rfl,_,rfl,?_⟩
  cases h:p i j with
  |false=>exact HS (k _ H3 (s2.trans s3) (by simp[h]))
  |true=>exact Ib (hc H3 (s.trans (s2.trans s3)) _ fun z H4 s4 e=>by
    subst e
    exact⟨j,n,rfl,rfl,k _ H4 (s2.trans (s3.trans s4)) (by simp[h])⟩)
theorem vN(ha:Ev ta σ H (.bl b))(hb:b=true→Ev tb σ H (.bl c)):Ev (acp ta tb) σ H (.bl (b&&c)):=fun H1 s Q k =>
 ha H1 s _ fun x' H2 s2 e=>by
  refine⟨b,e,?_⟩
  cases b with
  |false=>exact HS (k _ H2 s2 (by simp))
  |true=>exact Ib (hb rfl H2 (s.trans s2) _ fun z H3 s3 e=>k _ H3 (s2.trans s3) (by simpa using e))
theorem aco(ha:Ev ta σ H (.bl b))(hb:b=false→Ev tb σ H (.bl c)):Ev (ad2 ta tb) σ H (.bl (b||c)):=fun H1 s Q k =>
 ha H1 s _ fun x' H2 s2 e=>by
  refine⟨b,e,?_⟩
  cases b with
  |true=>exact Ib (k _ H2 s2 (by simp))
  |false=>exact HS (hb rfl H2 (s.trans s2) _ fun z H3 s3 e=>k _ H3 (s2.trans s3) (by simpa using e))
theorem aar(ha:Ev ta σ H (.bl b)):Ev (acu ta) σ H (.bl (!b)):=fun H1 s Q k=>ha H1 s _ fun x' H2 s2 e=>⟨b,e,k _ H2 s2 rfl⟩
theorem U6(h:EvT tt σ H b)(ha:b=true→EvP ta σ H R)(hb:b=false→EvP tb σ H R):EvP (tIf tt ta tb) σ H R:=fun H1 s Q k =>
 h H1 s _ fun H2 s2=>by
  cases b with
  |true=>exact Ib (ha rfl H2 (s.trans s2) Q fun v H' s'=>k v H' (s2.trans s'))
  |false=>exact HS (hb rfl H2 (s.trans s2) Q fun v H' s'=>k v H' (s2.trans s'))
theorem aP(ha:Ev ta σ H (.bl b)):EvT (WY ta) σ H b:=fun H1 s Q k=>ha H1 s _ fun x H2 s2 e=>⟨b,e,k H2 s2⟩
theorem fu(ha:Ev ta σ H (.bl b)):EvT (tB ta) σ H b:=fun H1 s Q k=>ha H1 s _ fun x H2 s2 e=>⟨b,e,k H2 s2⟩
theorem cC(h:EvT tt σ H b):EvT (acI tt) σ H (!b):=fun H1 s Q k=>h H1 s _ fun H2 s2=>k H2 s2
theorem Jg(h:EvT tt σ H b)(h2:b=true→EvT tu σ H c):EvT (ad_ tt tu) σ H (b&&c):=fun H1 s Q k=>h H1 s _ fun H2 s2=>by
 cases b with
 |false=>exact HS (k H2 s2)
 |true=>exact Ib (h2 rfl H2 (s.trans s2) Q fun H' s'=>k H' (s2.trans s'))
theorem Hy(h:EvT tt σ H b)(h2:b=false→EvT tu σ H c):EvT (tOr tt tu) σ H (b||c):=fun H1 s Q k=>h H1 s _ fun H2 s2=>by
 cases b with
 |true=>exact Ib (k H2 s2)
 |false=>exact HS (h2 rfl H2 (s.trans s2) Q fun H' s'=>k H' (s2.trans s'))
theorem PQ:EvT YB σ H true:=fun H1 s Q k=>k H1 (aY.refl _)
theorem aV:Bt eV σ H []:=fun H1 s Q k=>k [] H1 (aY.refl _) rfl
theorem aB(ha:Ev ta σ H x)(hr:Bt u σ H xs):Bt (bw ta u) σ H (x::xs):=fun H1 s Q k =>
 ha H1 s _ fun x' H2 s2 e=>by
  subst e
  exact hr H2 (s.trans s2) _ fun us H3 s3 e=>k _ H3 (s2.trans s3) (by rw[e])
theorem acZ(ha:EvP ta σ H R)(m:Tz R)(hr:Bt u σ H xs):EvA (bw ta u) σ H fun vs H'=>∃v,vs=v::xs∧R v H':=fun H1 s Q k =>
 ha H1 s _ fun x' H2 s2 e=>hr H2 (s.trans s2) _ fun us H3 s3 e3=>k _ H3 (s2.trans s3) ⟨x',by rw[e3],m _ _ _ s3 e⟩
theorem Wq:Tz (IsL xs):=fun v H H' s h=>h.up s
theorem xY(h:Bt u σ H xs)(hl:xs.length≤sizeLine):EvL (Y7 u) σ H xs:=fun H1 s Q k =>
 h H1 s _ fun us H2 s2 e=>by
  subst e
  exact⟨hl,fun p hp=>k _ _ (fun b o q=>by rw[aO (bj (s2 _ _ q) hp)];exact s2 _ _ q) ⟨p,rfl,aX⟩⟩
theorem ji{p:Addr}{o:HO}(hp:H p=none):aY H (upd H p o):=fun b q e=>by rw[aO (bj e hp)];exact e
theorem mC(ha:EvL ta σ H xs)(hb:EvL tb σ H zs)(hl:xs.length+zs.length≤sizeLine):EvL (tOp abq ta tb) σ H (xs++zs):=fun H1 s Q k =>
 ha H1 s _ fun x' H2 s2 ⟨l,e,q⟩=>hb H2 (s.trans s2) _ fun y' H3 s3 ⟨b,e3,q3⟩ =>
  ⟨l,b,xs,zs,e,e3,s3 _ _ q,q3,hl,fun p hp=>k _ _ ((s2.trans s3).trans (ji hp)) ⟨p,rfl,aX⟩⟩
theorem zR(ha:EvL ta σ H xs):Ev (tCB (fun xs H Q=>∃p ys,xs=[.ref p]∧(SqL K H p ys∨SqT K H p ys)∧Q (.int ys.length) H) (bw ta eV)) σ H (.int xs.length):=fun H1 s Q k =>
 ha H1 s _ fun x' H2 s2 ⟨l,e,q⟩=>⟨l,xs,by rw[e],.inl (SqL.of q),k _ H2 s2 rfl⟩
theorem Wy{kvs:List (Key×V)}(ha:Ev ta σ H (.ref a))(e:H a=some (.dK kvs)):Ev (tCB (fun xs H Q=>∃a kvs,xs=[V.ref a]∧H a=some (.dK kvs)∧Q (.int kvs.length) H) (bw ta eV)) σ H (.int kvs.length):=fun H1 s Q k =>
 ha H1 s _ fun x' H2 s2 q=>⟨a,kvs,by rw[q],s2 _ _ (s _ _ e),k _ H2 s2 rfl⟩
theorem acA{bs:List Bool}(ha:EvL ta σ H (bs.map V.bl)):Ev (tCB (ad3 K) (bw ta eV)) σ H (.bl (bs.any id)):=fun H1 s Q k =>
 ha H1 s _ fun x' H2 s2 ⟨l,e,q⟩=>⟨l,bs,by rw[e],SqL.of q,k _ H2 s2 rfl⟩
theorem Ip(ha:Ev ta σ H (.bl b)):Ev (tCB (fun xs H Q=>(∃i,xs=[.int i]∧Q (.int i) H)∨∃k,xs=[.bl k]∧Q (.int (if k then 1 else 0)) H) (bw ta eV)) σ H (.int (if b then 1 else 0)):=fun H1 s Q k =>
 ha H1 s _ fun x' H2 s2 e=>.inr ⟨b,by rw[e],k _ H2 s2 rfl⟩
theorem abU{i j:Int}(ha:Ev ta σ H (.int i))(hb:Ev tb σ H (.int j)):Ev (tCB (fun xs H Q=>∃i j,xs=[.int i,.int j]∧Q (.int (if j<i then j else i)) H) (bw ta (bw tb eV))) σ H (.int (if j<i then j else i)):=fun H1 s Q k =>
 ha H1 s _ fun x' H2 s2 e=>hb H2 (s.trans s2) _ fun y' H3 s3 e3=>⟨i,j,by rw[e,e3],k _ H3 (s2.trans s3) rfl⟩
theorem qG{i:Int}(ha:EvL ta σ H xs)(hb:Ev tb σ H (.int i))(e:atI xs i=some v):Ev (tOp (rIx K) ta tb) σ H v:=fun H1 s Q k =>
 ha H1 s _ fun x' H2 s2 ⟨l,el,q⟩=>hb H2 (s.trans s2) _ fun y' H3 s3 e3=>.inl ⟨l,xs,i,v,el,e3,SqL.of (s3 _ _ q),e,k _ H3 (s2.trans s3) rfl⟩
theorem Pb{i:Int}(ha:Ev ta σ H (.ref a))(q:SqT K H a xs)(hb:Ev tb σ H (.int i))(e:atI xs i=some v):Ev (tOp (rIx K) ta tb) σ H v:=fun H1 s Q k =>
 ha H1 s _ fun x' H2 s2 el=>hb H2 (s.trans s2) _ fun y' H3 s3 e3=>.inr (.inl ⟨a,xs,i,v,el,e3,(by
  rcases q with (q|⟨o,q⟩)|q
  ·exact .inl (.inl ((s.trans (s2.trans s3)) _ _ q))
  ·exact .inl (.inr ⟨o,(s.trans (s2.trans s3)) _ _ q⟩)
  ·exact .inr q),e,k _ H3 (s2.trans s3) rfl⟩)
theorem adL(ha:Ev ta σ H x)(hb:EvL tb σ H xs)(f1:tY x=true)(f2:xs.all tY=true):Ev (tOp (rIn K false) ta tb) σ H (.bl (inV x xs)):=fun H1 s Q k =>
 ha H1 s _ fun x' H2 s2 e=>hb H2 (s.trans s2) _ fun y' H3 s3 ⟨l,el,q⟩=>by
  subst e
  exact⟨l,xs,el,.inl (SqL.of q),f1,f2,k _ H3 (s2.trans s3) rfl⟩
theorem fH{kvs:List (Key×V)}{n:Int}(ha:Ev ta σ H (.ref a))(hb:Ev tb σ H (.int n))(e:H a=some (.dK kvs))(q:j_ kvs (Sum.inl n)=some v):Ev (aa3 ta tb) σ H v:=fun H1 s Q k =>
 ha H1 s _ fun x' H2 s2 e2=>hb H2 (s.trans s2) _ fun y' H3 s3 e3=>⟨a,v,e2,(by
  subst e3
  have:=Qp.k (k:=Sum.inl n) ((s.trans (s2.trans s3)) _ _ e)
  rw[q]at this
  exact this),k _ H3 (s2.trans s3) rfl⟩
theorem Ol{kvs:List (Key×V)}{n:Int}(hb:Ev tb σ H (.int n))(ha:Ev ta σ H (.ref a))(e:H a=some (.dK kvs)):Ev (Wn tb ta) σ H (.bl (!(j_ kvs (Sum.inl n)).isSome)):=fun H1 s Q k =>
 hb H1 s _ fun x' H2 s2 e2=>ha H2 (s.trans s2) _ fun y' H3 s3 e3=>⟨a,j_ kvs (Sum.inl n),e3,(by
  subst e2
  exact Qp.k (k:=Sum.inl n) ((s.trans (s2.trans s3)) _ _ e)),k _ H3 (s2.trans s3) rfl⟩
end
def ro(G:List V→Hp→(V→Hp→Prop)→Prop):Sp:=fun vs H Q _=>∃R,G vs H R∧∀v H',aY H H'→R v H'→Q v H'
section
variable {G:List V→Hp→(V→Hp→Prop)→Prop}{u:TA}{σ:St}{H:Hp}{R:V→Hp→Prop}{vs:List V}
theorem nH(ha:Bt u σ H vs)(hg:∀H1,aY H H1→G vs H1 R):EvP (fG (ro G) [] E0 u) σ H R:=fun H1 s Q k =>
 ha H1 s _ fun us H2 s2 e=>by
  subst e
  show ro G (us++[]) H2 Q E0
  rw[List.append_nil]
  exact⟨R,hg H2 (s.trans s2),fun v H' s' r=>k v H' (s2.trans s') r⟩
theorem Vx(ha:Bt u σ H vs)(hg:∀H1,aY H H1→∃R',G vs H1 R'∧∀v H',R' v H'→R v H'):EvP (fG (ro G) [] E0 u) σ H R:=fun H1 s Q k =>
 ha H1 s _ fun us H2 s2 e=>by
  subst e
  show ro G (us++[]) H2 Q E0
  rw[List.append_nil]
  obtain⟨R',h1,h2⟩:=hg H2 (s.trans s2)
  exact⟨R',h1,fun v H' s' r=>k v H' (s2.trans s') (h2 v H' r)⟩
theorem O1{RA:List V→Hp→Prop}(ha:EvA u σ H RA)(hg:∀vs H1,aY H H1→RA vs H1→G vs H1 R):EvP (fG (ro G) [] E0 u) σ H R:=fun H1 s Q k =>
 ha H1 s _ fun us H2 s2 e=>by
  show ro G (us++[]) H2 Q E0
  rw[List.append_nil]
  exact⟨R,hg us H2 (s.trans s2) e,fun v H' s' r=>k v H' (s2.trans s') r⟩
end
def EvS(t:TS)(σ:St)(H:Hp)(R:V→Hp→Prop):Prop:=∀H1,aY H H1→∀D:Ends,(∀v H',aY H1 H'→R v H'→D.rt v H')→t D σ H1
section
variable {t ta:TE}{tt:TT}{ts tu tr:TS}{σ:St}{H H':Hp}{R R1:V→Hp→Prop}{b:Bool}
theorem EvS.up(h:EvS ts σ H R)(s:aY H H'):EvS ts σ H' R:=fun H1 s1=>h H1 (s.trans s1)
theorem aU(h:EvP t σ H R):EvS (JT t) σ H R:=fun H1 s D k=>h H1 s D.rt k
theorem d7(h:EvT tt σ H b)(h1:b=true→EvS ts σ H R)(h2:b=false→EvS tr σ H R):EvS (m6 (Xf tt ts RC) tr) σ H R:=fun H1 s D k =>
 h H1 s _ fun H2 s2=>by
  cases b with
  |true=>exact Ib (h1 rfl H2 (s.trans s2) {D with nx:=tr D} fun v H' s'=>k v H' (s2.trans s'))
  |false=>exact HS (h2 rfl H2 (s.trans s2) D fun v H' s'=>k v H' (s2.trans s'))
theorem DN{i:Nat}(h:EvP t σ H R1)(h2:∀v H1,aY H H1→R1 v H1→EvS tr (σ.set i (some v)) H1 R):EvS (m6 (Va t (uL i)) tr) σ H R:=fun H1 s D k =>
 h H1 s _ fun v H2 s2 q=>h2 v H2 (s.trans s2) q H2 (aY.refl _) D fun v H' s'=>k v H' (s2.trans s')
end
section
variable {P:Program}{w:World}{K:PySem.W.Frag}{mg:Str→Option Value}{base:Heap}
theorem cO{x qual:Str}{st:Stmt}{f:Addr}{fd:FuncData}{N ps:List Str}{k:Nat}{G:List V→Hp→(V→Hp→Prop)→Prop}(F:Fun K x qual st f fd)(S:aG N ps (aA st))(len:∀vs H R,G vs H R→vs.length=ps.length)
  (hbody:∀(cdv:Value) (A:Around) (outer:List Env) (s:Shared) (H0:Hp) (E:XK),jF k (A.deeper (envOfC qual (aA st) s.heap.objs.size f cdv)) →
   ∃t,PSs (Mp CX0 P w K mg base N qual (aA st) f cdv A outer s H0 E).nox (ql st) t∧∀vs R,G vs H0 R→EvS t (start N vs) H0 R):bG P w K mg base CX0 (k+1) f fd ps (ro G) :=
 F.ok S (fun vs H Q E ⟨R,h,_⟩=>len vs H R h) fun cdv A outer s H vs Q E hr ⟨R,hg,kk⟩=>by
  obtain⟨t,h1,h2⟩:=hbody cdv A outer s H E hr
  exact⟨t,h1,h2 vs R hg H (aY.refl _) _ kk⟩
end
section
variable {K:PySem.W.Frag}{tl te:TE}{tt:TT}{σ:St}{H:Hp}{xs:List V}{k:Nat}
theorem Ey(σ:St)(k:Nat)(x:V):wipe ((wipe σ [k]).set k (some x)) [k]=wipe σ [k]:=by
 show((σ.set k none).set k (some x)).set k none=σ.set k none
 rw[List.set_set,List.set_set]
theorem q_{α:Type}:∀{l:List α} {i:Nat} {x:α},l[i]?=some x→l.take (i+1)=l.take i++[x]:=fun{l i x} h=>by rw[List.take_add_one,h];rfl
def IsN(H:Hp)(xs:List V)(v:V)(H':Hp):Prop:=∃l,v=.ref l∧H l=none∧H' l=some (.lst xs)
theorem IsN.l{H:Hp}{xs:List V}{v:V}{H':Hp}(h:IsN H xs v H'):IsL xs v H':=let ⟨l,e,_,q⟩:=h;⟨l,e,q⟩
theorem Z_{α:Type}{ys:List α}(it:α→V)(p:α→Bool)(f:α→V)(hl:EvL tl σ H (ys.map it))(hz:ys.length≤sizeLine)
  (ht:∀y∈ys,EvT tt ((wipe σ [k]).set k (some (it y))) H (p y)) (he:∀y∈ys,p y=true→Ev te ((wipe σ [k]).set k (some (it y))) H (f y)):EvP (tLc (Oc K tl) (uL k) tt te [k]) σ H (IsN H ((ys.filter p).map f)):=by
 intro H1 s Q q
 refine hl H1 s _ fun v H2 s2 ⟨l,e,hl2⟩=>⟨l,e,⟨_,SqL.of hl2⟩,fun D hD=>?_⟩
 refine ab3 (K:=K) (a:=l) (xs:=ys.map it) (Qd:=fun H'=>Q (.ref D) H') (fun i H'=>aY H2 H'∧H' D=some (.lst (((ys.take i).filter p).map f))) ⟨ji hD,aX⟩ (fun i H' _ h=>SqL.of (h.1 _ _ hl2)) ?_ ?_
 ·rintro i x H' hx ⟨s3,hd3⟩
  obtain⟨y,hy,rfl⟩:∃y,ys[i]?=some y∧it y=x:=by
   rw[List.getElem?_map]at hx
   cases e:ys[i]? with
   |none=>rw[e]at hx;cases hx
   |some y=>rw[e]at hx;exact⟨y,rfl,Option.some.inj hx⟩
  have mx:y∈ys:=List.mem_of_getElem? hy
  refine⟨Ey σ k (it y),?_⟩
  refine ht y mx H' (s.trans (s2.trans s3)) _ fun H4 s4=>?_
  rw[q_ hy,List.filter_append,List.map_append]
  cases hp:p y with
  |false =>
   refine HS ⟨s3.trans s4,?_⟩
   rw[List.filter_cons_of_neg (by rw[hp];exact Bool.false_ne_true),List.filter_nil,List.map_nil,List.append_nil]
   exact s4 _ _ hd3
  |true =>
   refine Ib (he y mx hp H4 (s.trans (s2.trans (s3.trans s4))) _ fun z H5 s5 e5=>?_)
   subst e5
   refine⟨_,s5 _ _ (s4 _ _ hd3),?_,?_,?_⟩
   ·have h1:i<ys.length:=(List.getElem?_eq_some_iff.mp hy).1
    have h2:=List.length_filter_le p (ys.take i)
    rw[List.length_take]at h2
    rw[List.length_map]
    omega
   ·intro b o eb
    rw[aO (bj eb hD)]
    exact s5 _ _ (s4 _ _ (s3 _ _ eb))
   ·rw[aX,List.filter_cons_of_pos hp,List.filter_nil]
    rfl
 ·rintro H' ⟨s3,hd3⟩
  rw[List.length_map,List.take_length]at hd3
  exact q _ _ (s2.trans s3) ⟨D,rfl,(s.trans s2).free hD,hd3⟩
theorem jZ{α:Type}{ys:List α}(it:α→V)(p:α→Bool)(f:α→V)(hl:EvL tl σ H (ys.map it))(hz:ys.length≤sizeLine)
  (ht:∀y∈ys,EvT tt ((wipe σ [k]).set k (some (it y))) H (p y)) (he:∀y∈ys,p y=true→Ev te ((wipe σ [k]).set k (some (it y))) H (f y)):EvL (tLc (Oc K tl) (uL k) tt te [k]) σ H ((ys.filter p).map f) :=
 (Z_ it p f hl hz ht he).imp fun _ _ _ h=>h.l
end
section
variable {K:PySem.W.Frag}{tl:TE}{tt:TT}{ts tr:TS}{σ:St}{H:Hp}{k:Nat}{R:V→Hp→Prop}
theorem ZZ{σ:St}{k:Nat}(h:k<σ.length):∃o,σ=σ.set k o:=⟨σ[k],(List.set_getElem_self h).symm⟩
theorem W7{α:Type}{ys:List α}(it:α→V)(p:α→Bool)(hk:k<σ.length)(hl:EvL tl σ H (ys.map it))(ht:∀y∈ys,EvT tt (σ.set k (some (it y))) H (p y))
  (hb:∀y∈ys,p y=true→EvS ts (σ.set k (some (it y))) H R) (hg:(∀y∈ys,p y=false)→∀o,EvS tr (σ.set k o) H R) :
  EvS (m6 (aab (Oc K tl) (uL k) (Xf tt ts RC)) tr) σ H R:=by
 intro H1 s D q
 refine hl H1 s _ fun v H2 s2 ⟨l,e,hl2⟩=>⟨l,e,⟨_,SqL.of hl2⟩,?_⟩
 refine JZ (K:=K) (a:=l) (xs:=ys.map it) (fun i σ' H'=>aY H2 H'∧(∀y∈ys.take i,p y=false)∧∃o,σ'=σ.set k o) ⟨aY.refl _,by simp,ZZ hk⟩ (fun i σ' H' _ h=>SqL.of (h.1 _ _ hl2)) ?_ ?_
 ·rintro i x σ' H' hx ⟨s3,h3,o,rfl⟩
  obtain⟨y,hy,rfl⟩:∃y,ys[i]?=some y∧it y=x:=by
   rw[List.getElem?_map]at hx
   cases e:ys[i]? with
   |none=>rw[e]at hx;cases hx
   |some y=>rw[e]at hx;exact⟨y,rfl,Option.some.inj hx⟩
  have mx:y∈ys:=List.mem_of_getElem? hy
  show Xf tt ts RC _ ((σ.set k o).set k (some (it y))) H'
  rw[List.set_set]
  refine ht y mx H' (s.trans (s2.trans s3)) _ fun H4 s4=>?_
  cases hp:p y with
  |true=>exact Ib (hb y mx hp H4 (s.trans (s2.trans (s3.trans s4))) _ fun v H' s' r=>q v H' (s2.trans (s3.trans (s4.trans s'))) r)
  |false =>
   refine HS ⟨s3.trans s4,fun z hz=>?_,_,rfl⟩
   rw[q_ hy]at hz
   rcases List.mem_append.mp hz with hz|hz
   ·exact h3 z hz
   ·rw[List.mem_singleton.mp hz];exact hp
 ·rintro σ' H' ⟨s3,h3,o,rfl⟩
  rw[List.length_map,List.take_length]at h3
  exact hg h3 o H' (s.trans (s2.trans s3)) D fun v H4 s4 r=>q v H4 (s2.trans (s3.trans s4)) r
def Bu(H:Hp)(ps:List (Addr×Int×Int×Int))(v:V):Prop:=∃l,v=.ref l∧H l=some (.lst (ps.map fun p=>V.ref p.1))∧∀p∈ps,H p.1=some (.tup [.int p.2.1,.int p.2.2.1,.int p.2.2.2])
theorem wD{ps:List (Addr×Int×Int×Int)}:Tz fun v H=>Bu H ps v:=fun v H H' s ⟨l,e,h1,h2⟩=>⟨l,e,s _ _ h1,fun p hp=>s _ _ (h2 p hp)⟩
end
end L2
end
section
set_option Elab.async false
set_option linter.all false
set_option maxRecDepth 100000
namespace Jq
open PySem PySem.Spec PyProof.Rows L2
abbrev St:=L2.St
theorem gh:bootBuiltins "len" = some (.builtin "len"):=by decide +kernel
theorem xj:bootBuiltins "sorted" = some (.builtin "sorted"):=by decide +kernel
theorem V9:bootBuiltins "min" = some (.builtin "min"):=by decide +kernel
theorem adp:bootBuiltins "any" = some (.builtin "any"):=by decide +kernel
theorem acO:bootBuiltins "set" = some (.type "set"):=by decide +kernel
theorem Pu:bootBuiltins "int" = some (.type "int"):=by decide +kernel
theorem IK:bootBuiltins "list" = some (.type "list"):=by decide +kernel
structure bV(K:PySem.W.Frag)(mg:Str→Option Value)(x qual:Str)(st:Stmt)(ps:List Str) where
 f:Addr
 fd:FuncData
 F:Fun K x qual st f fd
 b:Binds K fd ps []
 g:mg x=some (.ref f)
structure KC(K:PySem.W.Frag)(C:Addr)(x qual:Str)(st:Stmt)(ps:List Str) where
 f:Addr
 fd:FuncData
 F:Fun K x qual st f fd
 b:Binds K fd ps []
 m:Meth K C x f
structure Uq(K:PySem.W.Frag)(mg:Str→Option Value)(C:Addr)(x:Str)(f:Addr):Prop where
 M:Mk K C f
 g:mg x=some (.ref C)
section
variable {X:Cx}{x qual:Str}{st:Stmt}{ps:List Str}{k:Nat}{sp:Sp}{p pos apos:Pos}{e o:Expr}{es:List Expr}{t:TA}{ta:TE}{C f:Addr}{fd:FuncData}
theorem aK(D:bV X.K X.mg x qual st ps)(F:bG X.prog X.w X.K X.mg X.base CX0 k D.f D.fd ps sp)(hr:jF k X.A)(hg:Gl X x)(ha:PA X (e::es) t)(hdb:(x==("__debug__" : Str))=false:=by decide)
  (he:starEach (e::es) X.env=(false,eval e X.env)::starEach es X.env:=by rfl) (hpl:(backTo pos (starEach es X.env)).any (·.1)=false:=by rfl):PE X (.Call (.Name x p) (e::es) [] pos) (fG sp [] E0 t) :=
 abx F hr hg D.g D.F.kp D.b .nil RK ha hdb he hpl
theorem ab8(ho:PE X o ta)(c:Cls X.K C)(D:KC X.K C x qual st ps)(F:bG X.prog X.w X.K X.mg X.base CX0 k D.f D.fd ps sp)(hr:jF k X.A)(ha:PA X (e::es) t)
  {pl:Sem Bool} (hst:starEach (e::es) X.env=(false,eval e X.env)::starEach es X.env:=by rfl) (hpl:(backTo pos (starEach es X.env)).any (·.1)=false:=by rfl)
  (ht:eval (.Call (.Attribute o x apos) (e::es) [] pos) X.env=(do
   let ov ← eval o X.env
   standAt apos.atName
   let (f,first) ← holding [ov] (getMethod ov x pl)
   callWith pos f first (backTo pos (starEach (e::es) X.env)) (backToKw pos (keywordEach [] X.env))):=by rfl):PE X (.Call (.Attribute o x apos) (e::es) [] pos) (Nt C x sp [] E0 ta t) :=
 ab0 (pl:=pl) ho c D.m F hr D.b .nil RK ha hst hpl ht
theorem Ln(ho:PE X o ta)(c:Cls X.K C)(D:KC X.K C x qual st ps)(F:bG X.prog X.w X.K X.mg X.base CX0 k D.f D.fd ps sp)(hr:jF k X.A)
  {pl:Sem Bool} (ht:eval (.Call (.Attribute o x apos) [] [] pos) X.env=(do
   let ov ← eval o X.env
   standAt apos.atName
   let (f,first) ← holding [ov] (getMethod ov x pl)
   callWith pos f first (backTo pos (starEach [] X.env)) (backToKw pos (keywordEach [] X.env))):=by rfl):PE X (.Call (.Attribute o x apos) [] [] pos) (Nt C x sp [] E0 ta eV) :=
 Zw (pl:=pl) ho c D.m F hr D.b .nil RK ht
theorem acC(D:Uq X.K X.mg C x f){fd:FuncData}(F:bG X.prog X.w X.K X.mg X.base CX0 k f fd ps sp)(b:Binds X.K fd ps [])(hr:jF (k+1) X.A)(hg:Gl X x)(hdb:(x==("__debug__" : Str))=false:=by decide) :
  PE X (.Call (.Name x p) [] [] pos) (Ny C sp [] E0 eV):=ZQ D.M F hr hg D.g b .nil RK hdb
theorem bz{n:Int}(h:∃t,X.mg x=some (.int n t))(hg:Gl X x)(hd:(x==("__debug__" : Str))=false:=by decide):PE X (.Name x pos) (tC (.int n)) :=
 let ⟨t,e⟩:=h;WW hg e ⟨t,rfl⟩ hd
end
section
variable {X:Cx}{K:PySem.W.Frag}{e:Expr}{ta:TE}{f:Str}{pos:Pos}
theorem aD(he:PE X e ta)(hb:attributeBase e f X.env (eval e X.env)=eval e X.env)(hK:X.K=K:=by rfl):PE X (.Attribute e f pos) (j4 K ta f):=hK▸adw he hb
theorem bA(hK:X.K=K:=by rfl):IxR X (rIx K):=hK▸adl
theorem Uc(hK:X.K=K:=by rfl):OpR X (compareOp .In) (rIn K false):=hK▸YT
end
structure ZW(K:PySem.W.Frag)(mg:Str→Option Value):Prop where
 at_:True
def top(i:Nat):Stmt:=PySem.Challenge.pw_jobqueue_s01_answers.main.body.getD i (.Pass ⟨0,0,0,0⟩)
abbrev Gz:Stmt:=top 7
abbrev QK:Stmt:=top 8
abbrev Qi:Stmt:=top 9
abbrev qQ:Stmt:=top 10
abbrev zK:Stmt:=top 11
abbrev u5:Stmt:=top 12
abbrev tL:Stmt:=top 13
abbrev Ck:Stmt:=top 14
abbrev zW:Stmt:=top 15
abbrev zL:Stmt:=top 16
abbrev tR:Stmt:=top 17
abbrev yc:Stmt:=top 18
abbrev z8:Stmt:=top 19
abbrev Dq:Stmt:=top 20
abbrev rG:Stmt:=top 21
abbrev oh:Stmt:=top 22
abbrev pF:Stmt:=top 23
abbrev Cq:Stmt:=top 24
abbrev Cy:Stmt:=top 25
abbrev yE:Stmt:=top 39
abbrev y_:Stmt:=top 40
abbrev G8:Stmt:=top 41
abbrev Dk:Stmt:=top 42
abbrev Fx:Stmt:=top 43
abbrev vG:Stmt:=top 47
abbrev nY:Stmt:=top 48
abbrev ik:Stmt:=top 49
abbrev qd:Stmt:=top 60
abbrev vp:Stmt:=top 62
abbrev wH:Stmt:=top 63
abbrev vA:Stmt:=top 64
abbrev vX:Stmt:=top 65
abbrev oU:Stmt:=top 67
abbrev iM:Stmt:=top 68
abbrev wG:Stmt:=top 69
abbrev Dc:Stmt:=top 70
abbrev kY:Stmt:=top 72
abbrev jC:Stmt:=top 73
abbrev iG:Stmt:=top 74
abbrev yr:Stmt:=top 75
abbrev oJ:Stmt:=top 77
abbrev lF:Stmt:=top 78
abbrev jE:Stmt:=top 79
abbrev jw:Stmt:=top 80
abbrev Ju:Stmt:=top 81
abbrev I_:Stmt:=top 82
abbrev vO:Stmt:=top 83
abbrev qZ:Stmt:=top 84
abbrev Lq:Stmt:=top 85
abbrev Dv:Stmt:=top 86
abbrev Iw:Stmt:=top 87
abbrev OJ:Stmt:=top 88
abbrev Fy:Stmt:=top 89
abbrev Du:Stmt:=top 90
abbrev gY:Stmt:=top 93
abbrev Lk:Stmt:=top 94
abbrev m8:Stmt:=top 95
abbrev Dj:Stmt:=top 96
abbrev k_:Stmt:=top 97
abbrev GK:Stmt:=top 98
abbrev yQ:Stmt:=top 99
abbrev Qk:Stmt:=top 100
abbrev K4:Stmt:=top 101
abbrev G_:Stmt:=top 102
abbrev GJ:Stmt:=top 103
abbrev Gp:Stmt:=top 104
abbrev PJ:Stmt:=top 105
abbrev nZ:Stmt:=top 107
abbrev rY:Stmt:=top 108
abbrev dN:Stmt:=top 109
abbrev jJ:Stmt:=top 110
abbrev uT:Stmt:=top 111
abbrev vM:Stmt:=top 112
abbrev uq:Stmt:=top 113
abbrev rR:Stmt:=top 114
abbrev tQ:Stmt:=top 115
abbrev u0:Stmt:=top 116
abbrev pQ:Stmt:=top 117
abbrev wA:Stmt:=top 118
abbrev qi:Stmt:=top 150
abbrev lz:Stmt:=top 151
abbrev iZ:Stmt:=top 152
abbrev oN:Stmt:=top 153
abbrev lu:Stmt:=top 154
abbrev wF:Stmt:=top 155
abbrev Cr:Stmt:=top 156
abbrev Ae:Stmt:=inClass (top 38) 0
abbrev p7:Stmt:=inClass (top 45) 0
abbrev v5:Stmt:=inClass (top 46) 0
abbrev u_:Stmt:=inClass (top 46) 1
abbrev uJ:Stmt:=inClass (top 149) 0
abbrev m5:Stmt:=inClass (top 149) 1
abbrev j5:Stmt:=inClass (top 149) 2
abbrev oW:Stmt:=inClass (top 149) 3
theorem Xi:aG ["n"] ["n"] (aA Gz):=⟨rfl,rfl,rfl,by decide +kernel,rfl,by decide +kernel,by decide +kernel⟩
theorem abv:aG ["n"] ["n"] (aA QK):=⟨rfl,rfl,rfl,by decide +kernel,rfl,by decide +kernel,by decide +kernel⟩
theorem ab1:aG ["n"] ["n"] (aA Qi):=⟨rfl,rfl,rfl,by decide +kernel,rfl,by decide +kernel,by decide +kernel⟩
theorem Gv:aG ["n"] ["n"] (aA qQ):=⟨rfl,rfl,rfl,by decide +kernel,rfl,by decide +kernel,by decide +kernel⟩
theorem R7:aG ["n"] ["n"] (aA zK):=⟨rfl,rfl,rfl,by decide +kernel,rfl,by decide +kernel,by decide +kernel⟩
theorem KQ:aG ["n"] ["n"] (aA u5):=⟨rfl,rfl,rfl,by decide +kernel,rfl,by decide +kernel,by decide +kernel⟩
theorem HY:aG ["n"] ["n"] (aA tL):=⟨rfl,rfl,rfl,by decide +kernel,rfl,by decide +kernel,by decide +kernel⟩
theorem Vd:aG ["n"] ["n"] (aA Ck):=⟨rfl,rfl,rfl,by decide +kernel,rfl,by decide +kernel,by decide +kernel⟩
theorem Ri:aG ["n"] ["n"] (aA zW):=⟨rfl,rfl,rfl,by decide +kernel,rfl,by decide +kernel,by decide +kernel⟩
theorem R8:aG ["n"] ["n"] (aA zL):=⟨rfl,rfl,rfl,by decide +kernel,rfl,by decide +kernel,by decide +kernel⟩
theorem Ig:aG ["n"] ["n"] (aA tR):=⟨rfl,rfl,rfl,by decide +kernel,rfl,by decide +kernel,by decide +kernel⟩
theorem Pg:aG ["byte"] ["byte"] (aA yc):=⟨rfl,rfl,rfl,by decide +kernel,rfl,by decide +kernel,by decide +kernel⟩
theorem S_:aG ["byte"] ["byte"] (aA z8):=⟨rfl,rfl,rfl,by decide +kernel,rfl,by decide +kernel,by decide +kernel⟩
theorem K8:aG ["row","byte"] ["row"] (aA Dq):=⟨rfl,rfl,rfl,by decide +kernel,rfl,by decide +kernel,by decide +kernel⟩
theorem xn:aG ["row","class_of"] ["row"] (aA rG):=⟨rfl,rfl,rfl,by decide +kernel,rfl,by decide +kernel,by decide +kernel⟩
theorem DP:aG ["row"] ["row"] (aA oh):=⟨rfl,rfl,rfl,by decide +kernel,rfl,by decide +kernel,by decide +kernel⟩
theorem uG:aG ["row","place"] ["row"] (aA pF):=⟨rfl,rfl,rfl,by decide +kernel,rfl,by decide +kernel,by decide +kernel⟩
theorem TX:aG ["job","kind","n"] ["job","kind","n"] (aA Cq):=⟨rfl,rfl,rfl,by decide +kernel,rfl,by decide +kernel,by decide +kernel⟩
theorem VP:aG ["row"] ["row"] (aA Cy):=⟨rfl,rfl,rfl,by decide +kernel,rfl,by decide +kernel,by decide +kernel⟩
theorem Ow:aG ["job"] ["job"] (aA yE):=⟨rfl,rfl,rfl,by decide +kernel,rfl,by decide +kernel,by decide +kernel⟩
theorem Sd:aG ["job"] ["job"] (aA y_):=⟨rfl,rfl,rfl,by decide +kernel,rfl,by decide +kernel,by decide +kernel⟩
theorem Xk:aG ["job"] ["job"] (aA G8):=⟨rfl,rfl,rfl,by decide +kernel,rfl,by decide +kernel,by decide +kernel⟩
theorem Uv:aG ["job","a"] ["job","a"] (aA Dk):=⟨rfl,rfl,rfl,by decide +kernel,rfl,by decide +kernel,by decide +kernel⟩
theorem Yr:aG ["kind","n","state","code"] ["kind","n","state","code"] (aA Fx):=⟨rfl,rfl,rfl,by decide +kernel,rfl,by decide +kernel,by decide +kernel⟩
theorem za:aG ["board","number"] ["board"] (aA vG):=⟨rfl,rfl,rfl,by decide +kernel,rfl,by decide +kernel,by decide +kernel⟩
theorem tO:aG ["board","job"] ["board"] (aA nY):=⟨rfl,rfl,rfl,by decide +kernel,rfl,by decide +kernel,by decide +kernel⟩
theorem lQ:aG ["jobs","class_of","job"] ["jobs","class_of"] (aA ik):=⟨rfl,rfl,rfl,by decide +kernel,rfl,by decide +kernel,by decide +kernel⟩
theorem Fb:aG ["board","number"] ["board","number"] (aA qd):=⟨rfl,rfl,rfl,by decide +kernel,rfl,by decide +kernel,by decide +kernel⟩
theorem La:aG ["board","class_of","n"] ["board","class_of","n"] (aA vp):=⟨rfl,rfl,rfl,by decide +kernel,rfl,by decide +kernel,by decide +kernel⟩
theorem Ml:aG ["board","class_of","closed"] ["board","class_of","closed"] (aA wH):=⟨rfl,rfl,rfl,by decide +kernel,rfl,by decide +kernel,by decide +kernel⟩
theorem Lg:aG ["board","class_of"] ["board","class_of"] (aA vA):=⟨rfl,rfl,rfl,by decide +kernel,rfl,by decide +kernel,by decide +kernel⟩
theorem My:aG ["board","class_of"] ["board","class_of"] (aA vX):=⟨rfl,rfl,rfl,by decide +kernel,rfl,by decide +kernel,by decide +kernel⟩
theorem gF:aG ["jobs","tests","number","kind","n","named"] ["jobs","tests"] (aA oU):=⟨rfl,rfl,rfl,by decide +kernel,rfl,by decide +kernel,by decide +kernel⟩
theorem mZ:aG ["jobs","tests","test"] ["jobs","tests"] (aA iM):=⟨rfl,rfl,rfl,by decide +kernel,rfl,by decide +kernel,by decide +kernel⟩
theorem Lx:aG ["job","state","code"] ["job","state","code"] (aA wG):=⟨rfl,rfl,rfl,by decide +kernel,rfl,by decide +kernel,by decide +kernel⟩
theorem yp:aG ["jobs","job","state","code","flushed","number","other"] ["jobs","job","state","code"] (aA Dc):=⟨rfl,rfl,rfl,by decide +kernel,rfl,by decide +kernel,by decide +kernel⟩
theorem zP:aG ["board","class_of","running"] ["board","class_of","running"] (aA kY):=⟨rfl,rfl,rfl,by decide +kernel,rfl,by decide +kernel,by decide +kernel⟩
theorem dC:aG ["board","initiator","running","classes","names","ready","class_of","job"] ["board","initiator"] (aA jC):=⟨rfl,rfl,rfl,by decide +kernel,rfl,by decide +kernel,by decide +kernel⟩
theorem jQ:aG ["board","initiator","free","due","classes","job"] ["board","initiator","free"] (aA iG):=⟨rfl,rfl,rfl,by decide +kernel,rfl,by decide +kernel,by decide +kernel⟩
theorem Fd:aG ["board","jobs","job"] ["board","jobs"] (aA yr):=⟨rfl,rfl,rfl,by decide +kernel,rfl,by decide +kernel,by decide +kernel⟩
theorem Dd:aG ["number","classes"] ["number","classes"] (aA oJ):=⟨rfl,rfl,rfl,by decide +kernel,rfl,by decide +kernel,by decide +kernel⟩
theorem Ai:aG ["board","number"] ["board","number"] (aA lF):=⟨rfl,rfl,rfl,by decide +kernel,rfl,by decide +kernel,by decide +kernel⟩
theorem p_:aG ["board","number","refusal"] ["board","number"] (aA jE):=⟨rfl,rfl,rfl,by decide +kernel,rfl,by decide +kernel,by decide +kernel⟩
theorem yz:aG ["board","number"] ["board","number"] (aA jw):=⟨rfl,rfl,rfl,by decide +kernel,rfl,by decide +kernel,by decide +kernel⟩
theorem Li:aG ["board","number","classes","refusal","initiator"] ["board","number","classes"] (aA Ju):=⟨rfl,rfl,rfl,by decide +kernel,rfl,by decide +kernel,by decide +kernel⟩
theorem KY:aG ["board","number","classes","refusal","initiator"] ["board","number","classes"] (aA I_):=⟨rfl,rfl,rfl,by decide +kernel,rfl,by decide +kernel,by decide +kernel⟩
theorem Ls:aG ["initiator"] ["initiator"] (aA vO):=⟨rfl,rfl,rfl,by decide +kernel,rfl,by decide +kernel,by decide +kernel⟩
theorem Fw:aG ["initiator"] ["initiator"] (aA qZ):=⟨rfl,rfl,rfl,by decide +kernel,rfl,by decide +kernel,by decide +kernel⟩
theorem JB:aG ["board","number","refusal","initiator"] ["board","number"] (aA Lq):=⟨rfl,rfl,rfl,by decide +kernel,rfl,by decide +kernel,by decide +kernel⟩
theorem VF:aG ["initiator","job"] ["initiator","job"] (aA Dv):=⟨rfl,rfl,rfl,by decide +kernel,rfl,by decide +kernel,by decide +kernel⟩
theorem xZ:aG ["board","number","refusal","initiator","free","job","other"] ["board","number"] (aA Iw):=⟨rfl,rfl,rfl,by decide +kernel,rfl,by decide +kernel,by decide +kernel⟩
theorem Ij:aG ["board","number","refusal","initiator","job"] ["board","number"] (aA OJ):=⟨rfl,rfl,rfl,by decide +kernel,rfl,by decide +kernel,by decide +kernel⟩
theorem xr:aG ["board","number","abend","code","refusal","initiator","state","flushed"] ["board","number","abend","code"] (aA Fy):=⟨rfl,rfl,rfl,by decide +kernel,rfl,by decide +kernel,by decide +kernel⟩
theorem yj:aG ["board","number","refusal","initiator","job"] ["board","number"] (aA Du):=⟨rfl,rfl,rfl,by decide +kernel,rfl,by decide +kernel,by decide +kernel⟩
theorem mU:aG ["board","number","refusal"] ["board","number"] (aA gY):=⟨rfl,rfl,rfl,by decide +kernel,rfl,by decide +kernel,by decide +kernel⟩
theorem aaT:aG ["board","cap","k","a"] ["board","cap","k","a"] (aA Lk):=⟨rfl,rfl,rfl,by decide +kernel,rfl,by decide +kernel,by decide +kernel⟩
theorem dw:aG ["board","tests","number","kind","n"] ["board","tests"] (aA m8):=⟨rfl,rfl,rfl,by decide +kernel,rfl,by decide +kernel,by decide +kernel⟩
theorem Vl:aG ["board"] ["board"] (aA Dj):=⟨rfl,rfl,rfl,by decide +kernel,rfl,by decide +kernel,by decide +kernel⟩
theorem sE:aG ["board","class_of","priority","held","name","row","refusal"] ["board","class_of","priority","held","name","row"] (aA k_):=⟨rfl,rfl,rfl,by decide +kernel,rfl,by decide +kernel,by decide +kernel⟩
theorem Aw:aG ["board","class_of","priority","held","name","row","refusal","tests","number"] ["board","class_of","priority","held","name","row"] (aA GK):=⟨rfl,rfl,rfl,by decide +kernel,rfl,by decide +kernel,by decide +kernel⟩
theorem zF:aG ["board","number","held","refusal","job"] ["board","number","held"] (aA yQ):=⟨rfl,rfl,rfl,by decide +kernel,rfl,by decide +kernel,by decide +kernel⟩
theorem abm:aG ["board","number"] ["board","number"] (aA Qk):=⟨rfl,rfl,rfl,by decide +kernel,rfl,by decide +kernel,by decide +kernel⟩
theorem Z3:aG ["board","number"] ["board","number"] (aA K4):=⟨rfl,rfl,rfl,by decide +kernel,rfl,by decide +kernel,by decide +kernel⟩
theorem Gh:aG ["board","number","class_of","priority","refusal","job"] ["board","number","class_of","priority"] (aA G_):=⟨rfl,rfl,rfl,by decide +kernel,rfl,by decide +kernel,by decide +kernel⟩
theorem Fp:aG ["board","number","refusal","flushed"] ["board","number"] (aA GJ):=⟨rfl,rfl,rfl,by decide +kernel,rfl,by decide +kernel,by decide +kernel⟩
theorem Np:aG ["board","number","refusal"] ["board","number"] (aA Gp):=⟨rfl,rfl,rfl,by decide +kernel,rfl,by decide +kernel,by decide +kernel⟩
theorem O7:aG ["board","n","number","job"] ["board","n"] (aA PJ):=⟨rfl,rfl,rfl,by decide +kernel,rfl,by decide +kernel,by decide +kernel⟩
theorem tH:aG ["board","job"] ["board"] (aA nZ):=⟨rfl,rfl,rfl,by decide +kernel,rfl,by decide +kernel,by decide +kernel⟩
theorem vP:aG ["board","job"] ["board"] (aA rY):=⟨rfl,rfl,rfl,by decide +kernel,rfl,by decide +kernel,by decide +kernel⟩
theorem cQ:aG ["board","class_of","ready","due","others","job"] ["board","class_of"] (aA dN):=⟨rfl,rfl,rfl,by decide +kernel,rfl,by decide +kernel,by decide +kernel⟩
theorem oG:aG ["board","job","other"] ["board","job"] (aA jJ):=⟨rfl,rfl,rfl,by decide +kernel,rfl,by decide +kernel,by decide +kernel⟩
theorem qz:aG ["board","number","refusal","job","nine"] ["board","number"] (aA uT):=⟨rfl,rfl,rfl,by decide +kernel,rfl,by decide +kernel,by decide +kernel⟩
theorem nJ:aG ["board","number","refusal","tests","row","test"] ["board","number"] (aA vM):=⟨rfl,rfl,rfl,by decide +kernel,rfl,by decide +kernel,by decide +kernel⟩
theorem xO:aG ["tests","number","test"] ["tests","number"] (aA uq):=⟨rfl,rfl,rfl,by decide +kernel,rfl,by decide +kernel,by decide +kernel⟩
theorem rP:aG ["board","number","refusal","row","job"] ["board","number"] (aA rR):=⟨rfl,rfl,rfl,by decide +kernel,rfl,by decide +kernel,by decide +kernel⟩
theorem n6:aG ["board","row","number","job_number"] ["board"] (aA tQ):=⟨rfl,rfl,rfl,by decide +kernel,rfl,by decide +kernel,by decide +kernel⟩
theorem Ka:aG ["board"] ["board"] (aA u0):=⟨rfl,rfl,rfl,by decide +kernel,rfl,by decide +kernel,by decide +kernel⟩
theorem vK:aG ["board","number","initiator"] ["board","number"] (aA pQ):=⟨rfl,rfl,rfl,by decide +kernel,rfl,by decide +kernel,by decide +kernel⟩
theorem wI:aG ["board","class_of","running","waiting"] ["board","class_of"] (aA wA):=⟨rfl,rfl,rfl,by decide +kernel,rfl,by decide +kernel,by decide +kernel⟩
theorem Ep:aG ["board","call","numbers","rows"] ["board","call","numbers","rows"] (aA qi):=⟨rfl,rfl,rfl,by decide +kernel,rfl,by decide +kernel,by decide +kernel⟩
theorem zH:aG ["board","call","numbers"] ["board","call","numbers"] (aA lz):=⟨rfl,rfl,rfl,by decide +kernel,rfl,by decide +kernel,by decide +kernel⟩
theorem xg:aG ["board","call","numbers","rows"] ["board","call","numbers","rows"] (aA iZ):=⟨rfl,rfl,rfl,by decide +kernel,rfl,by decide +kernel,by decide +kernel⟩
theorem CN:aG ["board","call","numbers"] ["board","call","numbers"] (aA oN):=⟨rfl,rfl,rfl,by decide +kernel,rfl,by decide +kernel,by decide +kernel⟩
theorem gK:aG ["board","reader","call","shape","numbers","rows","turn"] ["board","reader"] (aA lu):=⟨rfl,rfl,rfl,by decide +kernel,rfl,by decide +kernel,by decide +kernel⟩
theorem rW:aG ["board","calls","reader","told","answer"] ["board","calls"] (aA wF):=⟨rfl,rfl,rfl,by decide +kernel,rfl,by decide +kernel,by decide +kernel⟩
theorem Vc:aG ["calls"] ["calls"] (aA Cr):=⟨rfl,rfl,rfl,by decide +kernel,rfl,by decide +kernel,by decide +kernel⟩
theorem RN:aG ["self","number","name","class_of","priority","held","tests"] ["self","number","name","class_of","priority","held","tests"] (aA Ae):=⟨rfl,rfl,rfl,by decide +kernel,rfl,by decide +kernel,by decide +kernel⟩
theorem Fl:aG ["self"] ["self"] (aA p7):=⟨rfl,rfl,rfl,by decide +kernel,rfl,by decide +kernel,by decide +kernel⟩
theorem Mt:aG ["self","cap","k","a"] ["self","cap","k","a"] (aA v5):=⟨rfl,rfl,rfl,by decide +kernel,rfl,by decide +kernel,by decide +kernel⟩
theorem uK:aG ["self","cap","k","a","class_of","number"] ["self","cap","k","a"] (aA u_):=⟨rfl,rfl,rfl,by decide +kernel,rfl,by decide +kernel,by decide +kernel⟩
theorem Jt:aG ["self","calls"] ["self","calls"] (aA uJ):=⟨rfl,rfl,rfl,by decide +kernel,rfl,by decide +kernel,by decide +kernel⟩
theorem Bs:aG ["self"] ["self"] (aA m5):=⟨rfl,rfl,rfl,by decide +kernel,rfl,by decide +kernel,by decide +kernel⟩
theorem qH:aG ["self","number"] ["self"] (aA j5):=⟨rfl,rfl,rfl,by decide +kernel,rfl,by decide +kernel,by decide +kernel⟩
theorem oK:aG ["self","how_many","row"] ["self"] (aA oW):=⟨rfl,rfl,rfl,by decide +kernel,rfl,by decide +kernel,by decide +kernel⟩
structure Txt(K:PySem.W.Frag)(mg:Str→Option Value) where
 gQ:Addr
 bW:Addr
 d_:Addr
 g_:Addr
 xM:bV K mg "is_cap" "is_cap" Gz ["n"]
 FJ:bV K mg "is_k" "is_k" QK ["n"]
 Gn:bV K mg "is_a" "is_a" Qi ["n"]
 gf:bV K mg "is_job_number" "is_job_number" qQ ["n"]
 fW:bV K mg "is_class" "is_class" zK ["n"]
 iD:bV K mg "is_priority" "is_priority" u5 ["n"]
 gH:bV K mg "is_yes_or_no" "is_yes_or_no" tL ["n"]
 qY:bV K mg "is_code" "is_code" Ck ["n"]
 rH:bV K mg "is_ticks" "is_ticks" zW ["n"]
 rD:bV K mg "is_limit" "is_limit" zL ["n"]
 eE:bV K mg "is_initiator" "is_initiator" tR ["n"]
 kO:bV K mg "is_letter" "is_letter" yc ["byte"]
 rK:bV K mg "is_digit" "is_digit" z8 ["byte"]
 uC:bV K mg "is_name" "is_name" Dq ["row"]
 gZ:bV K mg "is_class_list" "is_class_list" rG ["row"]
 fU:bV K mg "is_row_of_tests" "is_row_of_tests" oh ["row"]
 iI:bV K mg "split_tests" "split_tests" pF ["row"]
 uA:bV K mg "is_test" "is_test" Cq ["job","kind","n"]
 dJ:bV K mg "counted" "counted" Cy ["row"]
 jo:bV K mg "has_ended" "has_ended" yE ["job"]
 lD:bV K mg "is_ready" "is_ready" y_ ["job"]
 lN:bV K mg "is_due" "is_due" G8 ["job"]
 ph:bV K mg "rank_of" "rank_of" Dk ["job","a"]
 wY:bV K mg "is_met" "is_met" Fx ["kind","n","state","code"]
 gG:bV K mg "all_jobs" "all_jobs" vG ["board"]
 dW:bV K mg "running_jobs" "running_jobs" nY ["board"]
 cz:bV K mg "how_many_of_class" "how_many_of_class" ik ["jobs","class_of"]
 cR:bV K mg "refusal_of_job" "refusal_of_job" qd ["board","number"]
 jR:bV K mg "limit_class" "limit_class" vp ["board","class_of","n"]
 jK:bV K mg "set_closed" "set_closed" wH ["board","class_of","closed"]
 jO:bV K mg "close_class" "close_class" vA ["board","class_of"]
 mL:bV K mg "open_class" "open_class" vX ["board","class_of"]
 d9:bV K mg "has_failed_test" "has_failed_test" oU ["jobs","tests"]
 dG:bV K mg "tests_still_open" "tests_still_open" iM ["jobs","tests"]
 jN:bV K mg "mark_ended" "mark_ended" wG ["job","state","code"]
 qM:bV K mg "end_job" "end_job" Dc ["jobs","job","state","code"]
 eU:bV K mg "lets_one_more_run" "lets_one_more_run" kY ["board","class_of","running"]
 lA:bV K mg "free_jobs" "free_jobs" jC ["board","initiator"]
 dY:bV K mg "chosen_job" "chosen_job" iG ["board","initiator","free"]
 o_:bV K mg "pass_over" "pass_over" yr ["board","jobs"]
 dZ:bV K mg "refusal_of_list" "refusal_of_list" oJ ["number","classes"]
 du:bV K mg "refusal_unless_on" "refusal_unless_on" lF ["board","number"]
 cX:bV K mg "refusal_unless_idle" "refusal_unless_idle" jE ["board","number"]
 cV:bV K mg "refusal_unless_busy" "refusal_unless_busy" jw ["board","number"]
 Bh:bV K mg "start" "start" Ju ["board","number","classes"]
 Be:bV K mg "serve" "serve" I_ ["board","number","classes"]
 jM:bV K mg "switch_off" "switch_off" vO ["initiator"]
 fZ:bV K mg "take_job_away" "take_job_away" qZ ["initiator"]
 Az:bV K mg "drain" "drain" Lq ["board","number"]
 uv:bV K mg "run_job" "run_job" Dv ["initiator","job"]
 GC:bV K mg "pick" "pick" Iw ["board","number"]
 G6:bV K mg "peek" "peek" OJ ["board","number"]
 xJ:bV K mg "finish" "finish" Fy ["board","number","abend","code"]
 ur:bV K mg "requeue" "requeue" Du ["board","number"]
 bO:bV K mg "refusal_of_waiting_job" "refusal_of_waiting_job" gY ["board","number"]
 Ao:bV K mg "begin" "begin" Lk ["board","cap","k","a"]
 fB:bV K mg "refusal_of_tests" "refusal_of_tests" m8 ["board","tests"]
 uD:bV K mg "is_full" "is_full" Dj ["board"]
 eQ:bV K mg "refusal_of_submit" "refusal_of_submit" k_ ["board","class_of","priority","held","name","row"]
 wW:bV K mg "submit" "submit" GK ["board","class_of","priority","held","name","row"]
 oX:bV K mg "set_held" "set_held" yQ ["board","number","held"]
 FZ:bV K mg "hold" "hold" Qk ["board","number"]
 Am:bV K mg "letgo" "letgo" K4 ["board","number"]
 wU:bV K mg "change" "change" G_ ["board","number","class_of","priority"]
 w6:bV K mg "cancel" "cancel" GJ ["board","number"]
 xF:bV K mg "forget" "forget" Gp ["board","number"]
 Fv:bV K mg "tick" "tick" PJ ["board","n"]
 gO:bV K mg "waiting_jobs" "waiting_jobs" nZ ["board"]
 jx:bV K mg "ready_jobs" "ready_jobs" rY ["board"]
 fJ:bV K mg "tell_order" "tell_order" dN ["board","class_of"]
 fQ:bV K mg "place_among_due" "place_among_due" jJ ["board","job"]
 jP:bV K mg "tell_status" "tell_status" uT ["board","number"]
 mQ:bV K mg "tell_tests" "tell_tests" vM ["board","number"]
 pA:bV K mg "names_job" "names_job" uq ["tests","number"]
 lZ:bV K mg "tell_after" "tell_after" rR ["board","number"]
 jh:bV K mg "tell_running" "tell_running" tQ ["board"]
 jT:bV K mg "tell_counts" "tell_counts" u0 ["board"]
 gD:bV K mg "tell_initiator" "tell_initiator" pQ ["board","number"]
 mJ:bV K mg "tell_class" "tell_class" wA ["board","class_of"]
 gC:bV K mg "answer_on_jobs" "answer_on_jobs" qi ["board","call","numbers","rows"]
 eO:bV K mg "answer_on_classes" "answer_on_classes" lz ["board","call","numbers"]
 dg:bV K mg "answer_on_initiators" "answer_on_initiators" iZ ["board","call","numbers","rows"]
 fO:bV K mg "answer_question" "answer_question" oN ["board","call","numbers"]
 jU:bV K mg "answer_next" "answer_next" lu ["board","reader"]
 l_:bV K mg "answers_on" "answers_on" wF ["board","calls"]
 mG:bV K mg "answers" "answers" Cr ["calls"]
 lC:KC K gQ "__init__" "Job.__init__" Ae ["self","number","name","class_of","priority","held","tests"]
 dH:KC K bW "__init__" "Initiator.__init__" p7 ["self"]
 iy:KC K d_ "__init__" "Board.__init__" v5 ["self","cap","k","a"]
 iK:KC K d_ "renew" "Board.renew" u_ ["self","cap","k","a"]
 gw:KC K g_ "__init__" "Reader.__init__" uJ ["self","calls"]
 fC:KC K g_ "is_at_end" "Reader.is_at_end" m5 ["self"]
 cG:KC K g_ "take_number" "Reader.take_number" j5 ["self"]
 fP:KC K g_ "take_row" "Reader.take_row" oW ["self"]
 bQ:Cls K gQ
 aaR:Uq K mg gQ "Job" lC.f
 ud:cJ K gQ "number"
 uI:cJ K gQ "name"
 lH:cJ K gQ "class_of"
 lB:cJ K gQ "priority"
 oZ:cJ K gQ "held"
 ir:cJ K gQ "tests"
 lU:cJ K gQ "state"
 uR:cJ K gQ "code"
 qg:cJ K gQ "waited"
 eG:cJ K gQ "passed_over"
 gP:cJ K gQ "due_turn"
 bB:Cls K bW
 yR:Uq K mg bW "Initiator" dH.f
 jg:cJ K bW "on"
 dq:cJ K bW "classes"
 cF:cJ K bW "draining"
 fj:cJ K bW "runs"
 bN:Cls K d_
 QG:Uq K mg d_ "Board" iy.f
 vD:cJ K d_ "cap"
 Bo:cJ K d_ "k"
 uw:cJ K d_ "a"
 pZ:cJ K d_ "time"
 um:cJ K d_ "jobs"
 gm:cJ K d_ "last_number"
 fc:cJ K d_ "last_due_turn"
 lJ:cJ K d_ "limits"
 kJ:cJ K d_ "closed"
 gM:cJ K d_ "initiators"
 dz:Cls K g_
 Jb:Uq K mg g_ "Reader" gw.f
 jc:cJ K g_ "calls"
 dX:cJ K g_ "place"
 xU:∃t,mg "LAST_JOB" = some (.int (999999) t)
 ue:∃t,mg "LAST_CLASS" = some (.int (36) t)
 lX:∃t,mg "LAST_INITIATOR" = some (.int (16) t)
 yx:∃t,mg "MOST_TESTS" = some (.int (8) t)
 jt:∃t,mg "MOST_CLASSES_IN_LIST" = some (.int (8) t)
 vf:∃t,mg "LONGEST_NAME" = some (.int (8) t)
 mK:∃t,mg "WAITING" = some (.int (0) t)
 nQ:∃t,mg "RUNNING_job" = some (.int (1) t)
 h_:∃t,mg "ENDED_WITH_CODE" = some (.int (2) t)
 jj:∃t,mg "ENDED_BY_ABEND" = some (.int (3) t)
 Gd:∃t,mg "FLUSHED" = some (.int (4) t)
 Aa:∃t,mg "CANCELLED" = some (.int (5) t)
 sY:∃t,mg "AFTER_ANY_END" = some (.int (0) t)
 lO:∃t,mg "AFTER_CODE_AT_MOST" = some (.int (1) t)
 gn:∃t,mg "AFTER_CODE_ABOVE_OR_ABEND" = some (.int (2) t)
 vR:∃t,mg "AFTER_ABEND" = some (.int (3) t)
 tU:∃t,mg "GREATEST_RANK" = some (.int (15) t)
 aW:∃t,mg "NOT_REFUSED" = some (.int (0) t)
 bH:∃t,mg "OUT_OF_RANGE" = some (.int (-1) t)
 yg:∃t,mg "BAD_FORM" = some (.int (-2) t)
 lq:∃t,mg "NO_INITIATOR" = some (.int (-3) t)
 DY:∃t,mg "NO_JOB" = some (.int (-4) t)
 jG:∃t,mg "SO_ALREADY" = some (.int (-5) t)
 rM:∃t,mg "WRONG_STATE" = some (.int (-6) t)
 v8:∃t,mg "TEST_FAILED" = some (.int (-7) t)
 Bk:∃t,mg "NO_ROOM" = some (.int (-8) t)
 zJ:∃t,mg "LAST_TIME" = some (.int (100000000) t)
 zQ:∃t,mg "FIRST_CAP" = some (.int (500) t)
 F_:∃t,mg "FIRST_K" = some (.int (10) t)
 GX:∃t,mg "FIRST_A" = some (.int (60) t)
 QM:∃t,mg "BEGIN" = some (.int (0) t)
 Kr:∃t,mg "SUBMIT" = some (.int (1) t)
 T4:∃t,mg "HOLD" = some (.int (2) t)
 Py:∃t,mg "LETGO" = some (.int (3) t)
 Jk:∃t,mg "CHANGE" = some (.int (4) t)
 K6:∃t,mg "CANCEL" = some (.int (5) t)
 J_:∃t,mg "FORGET" = some (.int (6) t)
 Vo:∃t,mg "TICK" = some (.int (7) t)
 QJ:∃t,mg "LIMIT" = some (.int (8) t)
 Qh:∃t,mg "CLOSE" = some (.int (9) t)
 Vy:∃t,mg "OPEN" = some (.int (10) t)
 Qm:∃t,mg "START" = some (.int (11) t)
 Qg:∃t,mg "SERVE" = some (.int (12) t)
 Qo:∃t,mg "DRAIN" = some (.int (13) t)
 T5:∃t,mg "PICK" = some (.int (14) t)
 Vm:∃t,mg "PEEK" = some (.int (15) t)
 Lj:∃t,mg "FINISH" = some (.int (16) t)
 G9:∃t,mg "REQUEUE" = some (.int (17) t)
 Qy:∃t,mg "ORDER" = some (.int (18) t)
 J5:∃t,mg "STATUS" = some (.int (19) t)
 Qn:∃t,mg "TESTS" = some (.int (20) t)
 PX:∃t,mg "AFTER" = some (.int (21) t)
 uP:∃t,mg "RUNNING_desk" = some (.int (22) t)
 Jv:∃t,mg "COUNTS" = some (.int (23) t)
 zp:∃t,mg "INITIATOR" = some (.int (24) t)
 iT:mg "len" = none
 Gy:mg "list" = none
 uX:mg "sorted" = none
 xT:mg "range" = none
 SQ:mg "min" = none
 aaq:mg "set" = none
 ZF:mg "any" = none
 Ou:mg "int" = none
 mR:Addr
 mH:Addr
 sh:ZW K mg
end Jq
end
section
set_option Elab.async false
set_option linter.all false
set_option maxRecDepth 100000
namespace L2
open PySem PySem.Spec PyProof.Rows
section
variable {X:Cx}
def Wb:List V→Hp→VK→Prop:=fun vs H Q=>∃(a:Addr) (kvs:List (Key×V)) (ns:List Int),vs=[V.ref a]∧H a=some (.dK kvs)∧kvs.map (·.1)=ns.map (Sum.inl:Int→Key) ∧
 ∀(ns':List Int) (p:Addr),ns'.Perm ns→ns'.Pairwise (·≤·)→H p=none→Q (.ref p) (upd H p (.lst (ns'.map V.int)))
theorem O4:∀{vs:List Value} {ns:List Int},vs.length=ns.length→(∀(j:Nat) (v:Value),vs[j]?=some v→∃(n:Int) (t:Tok),ns[j]?=some n∧v=Value.int n t)→IntsAre vs ns
 |[],[],_,_=>.nil
 |[],_::_,h,_=>by simp at h
 |_::_,[],h,_=>by simp at h
 |v::vs,n::ns,h,k=>by
  obtain⟨m,t,e1,e2⟩:=k 0 v rfl
  have e1:n=m:=by simpa using e1
  subst e1 e2
  exact .cons _ _ (O4 (by simpa using h) fun j u e=>by
   obtain⟨m,t,e1,e2⟩:=k (j+1) u (by simpa using e)
   exact⟨m,t,by simpa using e1,e2⟩)
theorem NK{P:Program}{w:World}{kvs:List (Key×V)}{vs:List (Key×Value)}{ns:List Int}{acc:List Value}(rel:KV kvs vs)(hk:kvs.map (·.1)=ns.map (Sum.inl:Int→Key))(hl:acc.length=vs.length)
  (hacc:∀(j:Nat) (v:Value),acc[j]?=some v→∃(k:Key) (x:Value),vs[j]?=some (k,x)∧(e_ P w).is k v=true):IntsAre acc ns:=by
 have hlv:kvs.length=vs.length:=Paired.length rel
 have hln:kvs.length=ns.length:=by have:=congrArg List.length hk;rw[List.length_map,List.length_map]at this;exact this
 refine O4 (by omega) fun j v e=>?_
 obtain⟨k,x,e1,e2⟩:=hacc j v e
 have hj:j<vs.length:=(List.getElem?_eq_some_iff.mp e1).1
 have ek:kvs[j]?=some kvs[j]:=List.getElem?_eq_getElem (by omega)
 obtain⟨b,hb,hr⟩:=V8 rel ek
 rw[e1]at hb
 cases hb
 have e3:(kvs.map (·.1))[j]?=some k:=by rw[List.getElem?_map,ek];exact congrArg some hr.1
 rw[hk,List.getElem?_map]at e3
 cases en:ns[j]? with
 |none=>rw[en]at e3;cases e3
 |some n =>
  rw[en]at e3
  have e3:(Sum.inl n:Key)=k:=Option.some.inj e3
  subst e3
  rcases gB (show Jo (Sum.inl n) v=true from e2)with ⟨i,t,a1,a2⟩|⟨y,t,a1,a2⟩
  ·cases a1
   exact⟨n,t,rfl,a2⟩
  ·cases a1
theorem xV(hc:X.calm=true):yH X (.builtin "sorted") Wb:=by
 intro pins s σ H vs us Q I r h
 obtain⟨a,kvs,ns,rfl,ha,hk,q⟩:=h
 rw[Vals.Zm r]
 obtain⟨z,hd,vs,rel,dd⟩:=Sq I.hok ha
 obtain⟨ep,hat⟩:=dd.dictAt
 have hlv:kvs.length=vs.length:=Paired.length rel
 have hln:kvs.length=ns.length:=by have:=congrArg List.length hk;rw[List.length_map,List.length_map]at this;exact this
 refine Calls.call_function_entry kind_sorted plain_sorted entry_sorted (args_sorted1 _) ?_
 unfold Builtin.«sorted»
 refine wpAny_bind (m:=checkCount "sorted" 1 1 _) (wpAny_pure ?_)
 refine wpAny_bind (PySem.W.kdu_collect (A:=X.A.in1) (PySem.W.kdl_dict (knd:=e_ X.prog X.w) (kvs:=vs) (ep:=ep) hd) (I.ok.hd hc) hat (by rw[← hlv];exact z) fun h' tk acc hk' hacc=>?_)
 have hal:acc.toList.length=vs.length:=by rw[Array.length_toList];exact hacc.1
 have hi:IntsAre acc.toList ns:=NK (P:=X.prog) (w:=X.w) rel hk hal fun j v e=>hacc.2 j v (by rw[← Array.getElem?_toList];exact e)
 refine wpAny_bind (wpAny_newList ?_ (by rw[hal,← hlv];exact z))
 have hoL:(h'.push (seqObj "list" acc.toList.toArray 0)).get? h'.objs.size=some (seqObj "list" acc.toList.toArray 0):=Heap.get?_push_size _ rfl
 refine wpAny_bind (wpAny_holding (wpAny_call_entry slot_list_sort ⟨_,hoL,rfl⟩ entry_list_sort (list_sort_treeAny hoL hi (by rw[hal,← hlv];exact z) fun out ns' a1 a2 a3=>⟨_,rfl,?_⟩) (args_list_sort _)))
 refine wpAny_pure ⟨_,rfl,?_⟩
 obtain⟨ep',he'⟩:=sortedHeap_at (vs:=acc.toList) (out:=out) hoL
 have hlen:(ns'.map V.int).length≤sizeLine:=by rw[List.length_map,a2.length_eq,← hln];exact z
 have I2:=I.kept (t':=tk) hk'
 exact⟨.ref _,upd H h'.objs.size (.lst (ns'.map V.int)),I2.laid (t':=tk) (fun b u e=>by
  rw[sortedHeap_old (Nat.ne_of_lt (Heap.lt_size e)) (by rw[Heap.size_push];exact Nat.lt_succ_of_lt (Heap.lt_size e))]
  exact Heap.get?_push_of_some _ e) (Nat.le_refl _) ⟨hlen,out.toList,ep',yD a1,he'⟩,rfl,q ns' _ a2 a3 I2.fresh⟩
def aat:List V→Hp→VK→Prop:=fun vs H Q=>∃(a:Addr) (kvs:List (Key×V)) (ns:List Int),vs=[V.ref a]∧H a=some (.dK kvs)∧kvs.map (·.1)=ns.map (Sum.inl:Int→Key) ∧
 ∀p:Addr,H p=none→Q (.ref p) (upd H p (.lst (ns.map V.int)))
theorem VM(hc:X.calm=true):yH X (.type "list") aat:=by
 intro pins s σ H vs us Q I r h
 obtain⟨a,kvs,ns,rfl,ha,hk,q⟩:=h
 rw[Vals.Zm r]
 obtain⟨z,hd,vs,rel,dd⟩:=Sq I.hok ha
 obtain⟨ep,hat⟩:=dd.dictAt
 have hlv:kvs.length=vs.length:=Paired.length rel
 have hln:kvs.length=ns.length:=by have:=congrArg List.length hk;rw[List.length_map,List.length_map]at this;exact this
 refine PySem.W.kdl_call (PySem.W.kdl_dict (knd:=e_ X.prog X.w) (kvs:=vs) (ep:=ep) hd) (I.ok.hd hc) hat (by rw[← hlv];exact z) fun h' tk acc c' hk' hS hacc=>?_
 have hal:acc.toList.length=vs.length:=by rw[Array.length_toList];exact hacc.1
 have hi:IntsAre acc.toList ns:=NK (P:=X.prog) (w:=X.w) rel hk hal fun j v e=>hacc.2 j v (by rw[← Array.getElem?_toList];exact e)
 exact⟨.ref _,upd H s.heap.objs.size (.lst (ns.map V.int)),I.laid (t':=tk) hk' (Nat.le_refl _) ⟨by rw[List.length_map,← hln];exact z,acc.toList,c',yD hi,by rw[Array.toArray_toList];exact hS⟩,rfl,q _ I.fresh⟩
end
theorem Gq:∀{l l':List Int},l'.Perm l→l.Pairwise (·<·)→l'.Pairwise (·≤·)→l'=l
 |[],l',p,_,_=>List.perm_nil.mp p
 |a::r,l',p,h1,h2=>by
  cases l' with
  |nil=>exact absurd p.length_eq (by simp)
  |cons c q =>
   obtain⟨a1,a2⟩:=List.pairwise_cons.mp h1
   obtain⟨c1,c2⟩:=List.pairwise_cons.mp h2
   have e:c=a:=by
    have m1:c∈a::r:=p.mem_iff.mp List.mem_cons_self
    have m2:a∈c::q:=p.mem_iff.mpr List.mem_cons_self
    rcases List.mem_cons.mp m1 with e|m1
    ·exact e
    ·rcases List.mem_cons.mp m2 with e | m2
     ·exact e.symm
     ·have:=a1 c m1
      have:=c1 a m2
      omega
   subst e
   rw[Gq (List.Perm.cons_inv p) a2 c2]
section
variable {ta:TE}{σ:St}{H:Hp}{a:Addr}
theorem TJ{kvs:List (Key×V)}{ns:List Int}(ha:Ev ta σ H (.ref a))(e:H a=some (.dK kvs))(hk:kvs.map (·.1)=ns.map (Sum.inl:Int→Key))(hs:ns.Pairwise (·<·)):EvL (tCB Wb (bw ta eV)) σ H (ns.map V.int):=fun H1 s Q k =>
 ha H1 s _ fun x' H2 s2 q=>⟨a,kvs,ns,by rw[q],s2 _ _ (s _ _ e),hk,fun ns' p h1 h2 hp=>by
  rw[Gq h1 hs h2]
  exact k _ _ (s2.trans (ji hp)) ⟨p,rfl,aX⟩⟩
end
end L2
namespace L2
open PySem PySem.Spec PyProof.Rows
section
variable {X:Cx}
def aac:List V→Hp→VK→Prop:=fun vs H Q=>∃(a:Addr) (ns:List Int),vs=[V.ref a]∧H a=some (.lst (ns.map V.int))∧ns.length≤400 ∧
 ∀p:Addr,H p=none→∀S:Int→Bool,Q (.ref p) (upd H p (.set S (firstMet (fun i=>ns.getD i 0) ns.length).length))
theorem aa_(hc:X.calm=true):yH X (.type "set") aac:=by
 intro pins s σ H vs us Q I r h
 obtain⟨a,ns,rfl,ha,hz,q⟩:=h
 rw[Vals.Zm r]
 obtain⟨its,rv,hl,_⟩:=I.list (SqL.of ha)
 have hi:=rv.ints
 have hlen:its.length=ns.length:=hi.length
 refine PySem.call_set_list (items:=its.toArray) (ns:=ns) (I.ok.hd hc) hl.isList (by simpa using hi) (by rw[List.size_toArray,hlen];unfold scanBound;omega) fun h' tk hS hk=>?_
 have es:its.toArray.size=ns.length:=by rw[List.size_toArray,hlen]
 rw[es]at hS
 exact⟨.ref _,_,I.laid (o:=.set _ (firstMet (fun i=>ns.getD i 0) ns.length).length) (t':=tk) (fun b o e=>hk b o (Heap.lt_size e) e) (Nat.le_refl _) hS,rfl,q _ I.fresh _⟩
theorem X_:yH X (.builtin "len") (fun xs H Q=>∃a S n,xs=[V.ref a]∧H a=some (.set S n)∧Q (.int (n:Nat)) H):=by
 intro pins s σ H xs us Q I r h
 obtain⟨a,S,n,rfl,ha,q⟩:=h
 rw[Vals.Zm r]
 obtain⟨o,es,ep,t,ho,hex,hd,_,_,hsc,hf,hn⟩:=I.hok a _ ha
 refine PySem.call_len_set ho hex hd hf (by unfold scanBound at hsc;omega) ?_
 rw[hn]
 exact⟨.int n,H,I.tok _,⟨_,rfl⟩,q⟩
end
theorem Yi{ns:List Int}:∀{acc:List Int},(ns.foldl step_dedup acc).length≤acc.length+ns.length∧((ns.foldl step_dedup acc).length=acc.length+ns.length↔(ns.Nodup∧∀x∈ns,x∉acc)):=by
 induction ns with
 |nil=>intro acc;simp
 |cons a r ih =>
  intro acc
  rw[List.foldl_cons,List.length_cons]
  unfold step_dedup
  by_cases h:a∈acc
  ·rw[if_pos (by simpa using h)]
   obtain⟨h1,h2⟩:=ih (acc:=acc)
   refine⟨by unfold step_dedup at h1;omega,⟨fun e=>by unfold step_dedup at h1;omega,fun e=>absurd h (e.2 a List.mem_cons_self)⟩⟩
  ·rw[if_neg (by simpa using h)]
   obtain⟨h1,h2⟩:=ih (acc:=acc++[a])
   rw[List.length_append,List.length_singleton]at h1 h2
   unfold step_dedup at h1 h2
   refine⟨by omega,?_⟩
   rw[show acc.length+(r.length+1)=acc.length+1+r.length by omega,h2,List.nodup_cons]
   constructor
   ·rintro⟨e1,e2⟩
    refine⟨⟨fun m=>?_,e1⟩,fun x hx=>?_⟩
    ·exact e2 a m (by simp)
    ·rcases List.mem_cons.mp hx with rfl | hx
     ·exact h
     ·intro m
      exact e2 x hx (List.mem_append_left _ m)
   ·rintro⟨⟨e0,e1⟩,e2⟩
    refine⟨e1,fun x hx m=>?_⟩
    rcases List.mem_append.mp m with m|m
    ·exact e2 x (List.mem_cons_of_mem _ hx) m
    ·rw[List.mem_singleton.mp m]at hx
     exact e0 hx
theorem Yt(ns:List Int):firstMet (fun i=>ns.getD i 0) ns.length=ns.foldl step_dedup []:=by
 unfold firstMet
 congr 1
 refine List.ext_getElem? fun k=>?_
 rw[List.getElem?_map]
 by_cases h:k<ns.length
 ·rw[List.getElem?_range h,List.getElem?_eq_getElem h]
  show some (ns.getD k 0)=_
  rw[List.getD_eq_getElem?_getD,List.getElem?_eq_getElem h]
  rfl
 ·rw[List.getElem?_eq_none (by simpa using h),List.getElem?_eq_none (by omega)]
  rfl
theorem S5(ns:List Int):(firstMet (fun i=>ns.getD i 0) ns.length).length=ns.length↔ns.Nodup:=by
 rw[Yt]
 have:=(Yi (ns:=ns) (acc:=[])).2
 simp only[List.length_nil,Nat.zero_add,List.not_mem_nil,not_false_eq_true,implies_true,and_true]at this
 exact this
def Tp:V→List V→Hp→VK→Prop:=fun x vs H Q=>∃l b xs zs,x=.ref l∧vs=[.ref b]∧H l=some (.lst xs)∧H b=some (.tup zs)∧xs.length+zs.length≤sizeLine∧Q .non (upd H l (.lst (xs++zs)))
theorem U4(l b:Addr)(items:Array Value)(n:Nat)(items2:Array Value)(hlong:¬(!items.isEmpty&&Builtin.List.listTooLong (items.size+items2.size))=true)(h1:items.size≤sizeLine)(h2:items.size+items2.size≤sizeLine+1) :
  Meets (Builtin.«list.extend» ⟨[.ref l,.ref b],[]⟩) (fun _ R s=>s.heap.get? l=some {cls:=.type "list",data:=.seq items n}∧IsTup s.heap b items2∧R (.ok (.ret .none)) {s with heap:=s.heap.update l (Obj.mapSeq fun x=>x++items2)}) :=
 .of_wp fun prog w A R s h=>by
  obtain⟨hl,⟨o,ho,hc,n2,hd⟩,h⟩:=h
  show wpAny _ A.in1 (Builtin.List.listExtendWith (.ref l) (.ref b) .none) _ _ s
  unfold Builtin.List.listExtendWith
  refine wpAny_bind (wpAny_typeOf ⟨o,ho,hc⟩ ?_)
  have e1:(Builtin.List.listSameRef (.ref l) (.ref b)||Value.type "tuple"==Value.type "list"||Value.type "tuple"==Value.type "tuple")=true:=by simp
  simp only[e1,if_true]
  refine wpAny_bind ?_
  unfold Builtin.List.listItems
  refine wpAny_bind (wpAny_seqItems ho hd (wpAny_pure ?_))
  refine wpAny_bind ?_
  refine wpAny_bind (wpAny_seqItems hl rfl (wpAny_pure ?_))
  rw[if_neg hlong]
  show wpAny _ A.in1 (updateSeq l (fun x=>x++items2) >>= fun _=>ret .none) _ _ s
  refine wpAny_bind (wpAny_updateSeq hl rfl (hz:=h1) (_hz':=by rw[Array.size_append];exact h2) ?_)
  exact wpAny_pure ⟨_,rfl,h⟩
theorem V4{X:Cx}:MtM X "list.extend" Tp:=by
 intro pins s σ H x vs v us Q I rx rv h
 obtain⟨l,b,xs,zs,rfl,rfl,hH,hB,hz,q⟩:=h
 cases rx
 obtain⟨u,rfl,ru⟩:=rv.one
 cases ru
 obtain⟨z,its,n,r,hl,e⟩:=I.HR hH
 obtain⟨its2,r2,e2,z2⟩:=I.tuple (SqT.of hB)
 have hl2:=r2.length
 have hsz:its.toArray.size+its2.toArray.size≤sizeLine:=by rw[List.size_toArray,List.size_toArray];omega
 refine call_meets F.slot_list_extend ⟨_,e,rfl⟩ F.entry_list_extend (F.args_list_extend_2 _ _)
  (U4 l b its.toArray n its2.toArray (by rw[Rz hsz,Bool.and_false];exact Bool.false_ne_true) (by rw[List.size_toArray];omega) (by omega)) ⟨e,e2,?_⟩
 refine⟨.non,_,I.R9 (its':=its++its2) hH e (by simp) (r.append r2) ?_,rfl,q⟩
 rw[List.length_append]
 omega
end L2
namespace L2
open PySem PySem.Spec PyProof.Rows
def yI(ns:List Int):PyData:=.list (ns.map PyData.int)
theorem W9{K:PySem.W.Frag}{H:Hp}{a:Addr}{ns:List Int}(h:H a=some (.lst (ns.map V.int))):Dp K H (.ref a) (yI ns):=.lst (SqL.of h) (by
 clear h
 induction ns with
 |nil=>exact .nil
 |cons n r ih=>exact .cons (.int n) ih)
theorem R_(ns:List Int):(yI ns).canLay0=true:=by
 show PyData.canLayAll0 (ns.map PyData.int)=true
 induction ns with
 |nil=>rfl
 |cons n r ih=>exact ih
theorem VH(ns:List Int):(yI ns).depth≤2:=by
 have h:PyData.depthAll (ns.map PyData.int)≤1:=by
  induction ns with
  |nil=>decide
  |cons n r ih =>
   show max (PyData.depth (.int n)) (PyData.depthAll (r.map PyData.int))≤1
   exact Nat.max_le.mpr ⟨by first | exact Nat.le_refl _ | exact Nat.zero_le _,ih⟩
 show PyData.depthAll (ns.map PyData.int)+1≤2
 omega
theorem TV:∀a b:List Int,PyData.eqvAll (a.map PyData.int) (b.map PyData.int)=decide (a=b)
 |[],[]=>rfl
 |[],_::_=>rfl
 |_::_,[]=>rfl
 |x::a,y::b=>by
  show((x==y)&&PyData.eqvAll (a.map PyData.int) (b.map PyData.int))=_
  rw[TV a b,Bool.eq_iff_iff]
  simp
def aaU:R2:=fun x y H Q=>∃a l ns,∃rows:List (Addr×List Int),x=.ref a∧y=.ref l∧H a=some (.lst (ns.map V.int))∧H l=some (.lst (rows.map fun r=>V.ref r.1))∧(∀r∈rows,H r.1=some (.lst (r.2.map V.int)))∧Q (.bl (!rows.any fun r=>decide (r.2=ns))) H
theorem MF{X:Cx}(hu:X.A.units+65<cLine):OpR X (compareOp .NotIn) aaU:=by
 intro pins s σ H x y v u Q I rx ry h
 obtain⟨a,l,ns,rows,rfl,rfl,ha,hl,hr,q⟩:=h
 obtain⟨as,r1⟩:=Dp.reads I (yI ns) _ v (W9 ha) rx
 have hd:Dp X.K H (.ref l) (.list (rows.map fun r=>yI r.2)):=.lst (SqL.of hl) (by
  clear hl q
  induction rows with
  |nil=>exact .nil
  |cons r t ih=>exact .cons (W9 (hr r List.mem_cons_self)) (ih fun z hz=>hr z (List.mem_cons_of_mem _ hz)))
 obtain⟨bs,r2⟩:=Dp.reads I _ _ u hd ry
 refine SeqAt.notIn_list_reads r2 r1 ?_ (R_ ns) ?_ ⟨.bl _,H,I,rfl,?_⟩
 ·clear hl hr q hd r2
  induction rows with
  |nil=>rfl
  |cons r t ih =>
   show(PyData.canLay0 (yI r.2)&&PyData.canLayAll0 (t.map fun r=>yI r.2))=true
   rw[ih,R_]
   rfl
 ·have h1:=VH ns
  have h2:min (PyData.depthAll (rows.map fun r=>yI r.2)) (yI ns).depth≤(yI ns).depth:=Nat.min_le_right _ _
  omega
 ·rw[List.any_map]
  have e:((fun y=>PyData.eqv y (yI ns))∘fun r:Addr×List Int=>yI r.2)=fun r=>decide (r.2=ns):=by
   funext r
   show PyData.eqvAll (r.2.map PyData.int) (ns.map PyData.int)=_
   exact TV r.2 ns
  rw[e]
  exact q
end L2
end
section
set_option Elab.async false
set_option linter.all false
set_option maxRecDepth 100000
namespace Jq
open PySem PySem.Spec PyProof.Rows L2
theorem dh{f:Str}{v:V}{r:List (Str×V)}:((f,v)::r).lookup f=some v:=by
 rw[List.lookup_cons,beq_self_eq_true]
theorem aF{f g:Str}{v:V}{r:List (Str×V)}{o:Option V}(h:(g==f)=false)(e:r.lookup g=o):((f,v)::r).lookup g=o:=by
 rw[List.lookup_cons,h]
 exact e
theorem dM{f:Str}{v x:V}{r:List (Str×V)}:bK f v ((f,x)::r)=(f,v)::r:=if_pos rfl
theorem au{f g:Str}{v x:V}{r r':List (Str×V)}(h:(f==g)=false)(e:bK f v r=r'):bK f v ((g,x)::r)=(g,x)::r':=by
 have h':¬g=f:=fun q=>by rw[q,beq_self_eq_true]at h;cases h
 exact(if_neg h').trans (by rw[e])
theorem z9:(("name" : Str)==("number" : Str))=false:=by decide +kernel
theorem o8:(("class_of" : Str)==("number" : Str))=false:=by decide +kernel
theorem qP:(("class_of" : Str)==("name" : Str))=false:=by decide +kernel
theorem oV:(("priority" : Str)==("number" : Str))=false:=by decide +kernel
theorem rJ:(("priority" : Str)==("name" : Str))=false:=by decide +kernel
theorem lG:(("priority" : Str)==("class_of" : Str))=false:=by decide +kernel
theorem u6:(("held" : Str)==("number" : Str))=false:=by decide +kernel
theorem yC:(("held" : Str)==("name" : Str))=false:=by decide +kernel
theorem qU:(("held" : Str)==("class_of" : Str))=false:=by decide +kernel
theorem qJ:(("held" : Str)==("priority" : Str))=false:=by decide +kernel
theorem tD:(("tests" : Str)==("number" : Str))=false:=by decide +kernel
theorem wB:(("tests" : Str)==("name" : Str))=false:=by decide +kernel
theorem pJ:(("tests" : Str)==("class_of" : Str))=false:=by decide +kernel
theorem pH:(("tests" : Str)==("priority" : Str))=false:=by decide +kernel
theorem vV:(("tests" : Str)==("held" : Str))=false:=by decide +kernel
theorem sW:(("state" : Str)==("number" : Str))=false:=by decide +kernel
theorem wL:(("state" : Str)==("name" : Str))=false:=by decide +kernel
theorem pL:(("state" : Str)==("class_of" : Str))=false:=by decide +kernel
theorem pM:(("state" : Str)==("priority" : Str))=false:=by decide +kernel
theorem wC:(("state" : Str)==("held" : Str))=false:=by decide +kernel
theorem uN:(("state" : Str)==("tests" : Str))=false:=by decide +kernel
theorem uF:(("code" : Str)==("number" : Str))=false:=by decide +kernel
theorem xR:(("code" : Str)==("name" : Str))=false:=by decide +kernel
theorem qW:(("code" : Str)==("class_of" : Str))=false:=by decide +kernel
theorem qR:(("code" : Str)==("priority" : Str))=false:=by decide +kernel
theorem xW:(("code" : Str)==("held" : Str))=false:=by decide +kernel
theorem wz:(("code" : Str)==("tests" : Str))=false:=by decide +kernel
theorem vQ:(("code" : Str)==("state" : Str))=false:=by decide +kernel
theorem qT:(("waited" : Str)==("number" : Str))=false:=by decide +kernel
theorem uH:(("waited" : Str)==("name" : Str))=false:=by decide +kernel
theorem oO:(("waited" : Str)==("class_of" : Str))=false:=by decide +kernel
theorem oM:(("waited" : Str)==("priority" : Str))=false:=by decide +kernel
theorem uO:(("waited" : Str)==("held" : Str))=false:=by decide +kernel
theorem tW:(("waited" : Str)==("tests" : Str))=false:=by decide +kernel
theorem tM:(("waited" : Str)==("state" : Str))=false:=by decide +kernel
theorem vq:(("waited" : Str)==("code" : Str))=false:=by decide +kernel
theorem j6:(("passed_over" : Str)==("number" : Str))=false:=by decide +kernel
theorem m9:(("passed_over" : Str)==("name" : Str))=false:=by decide +kernel
theorem jf:(("passed_over" : Str)==("class_of" : Str))=false:=by decide +kernel
theorem jd:(("passed_over" : Str)==("priority" : Str))=false:=by decide +kernel
theorem m7:(("passed_over" : Str)==("held" : Str))=false:=by decide +kernel
theorem kh:(("passed_over" : Str)==("tests" : Str))=false:=by decide +kernel
theorem lL:(("passed_over" : Str)==("state" : Str))=false:=by decide +kernel
theorem m_:(("passed_over" : Str)==("code" : Str))=false:=by decide +kernel
theorem jX:(("passed_over" : Str)==("waited" : Str))=false:=by decide +kernel
theorem oR:(("due_turn" : Str)==("number" : Str))=false:=by decide +kernel
theorem rF:(("due_turn" : Str)==("name" : Str))=false:=by decide +kernel
theorem lM:(("due_turn" : Str)==("class_of" : Str))=false:=by decide +kernel
theorem lg:(("due_turn" : Str)==("priority" : Str))=false:=by decide +kernel
theorem rB:(("due_turn" : Str)==("held" : Str))=false:=by decide +kernel
theorem qC:(("due_turn" : Str)==("tests" : Str))=false:=by decide +kernel
theorem pI:(("due_turn" : Str)==("state" : Str))=false:=by decide +kernel
theorem qO:(("due_turn" : Str)==("code" : Str))=false:=by decide +kernel
theorem oE:(("due_turn" : Str)==("waited" : Str))=false:=by decide +kernel
theorem iY:(("due_turn" : Str)==("passed_over" : Str))=false:=by decide +kernel
structure JV where
 number:Int
 name:Addr
 KJ:Int
 priority:Int
 held:Bool
 tests:Addr
 state:Int
 code:Int
 waited:Int
 sH:Int
 zz:Int
def JV.fs(j:JV):List (Str×V):=[("number",V.int j.number),("name",V.ref j.name),("class_of",V.int j.KJ),("priority",V.int j.priority),("held",V.bl j.held),("tests",V.ref j.tests),("state",V.int j.state),("code",V.int j.code),("waited",V.int j.waited),("passed_over",V.int j.sH),("due_turn",V.int j.zz)]
theorem JV.few(j:JV):j.fs.length<1000:=by show 11<1000;decide
theorem JV.Zq(j:JV):j.fs.lookup ("number" : Str)=some (V.int j.number):=dh
theorem JV.Uj(j:JV):j.fs.lookup ("name" : Str)=some (V.ref j.name):=(aF z9 dh)
theorem JV.Ur(j:JV):j.fs.lookup ("class_of" : Str)=some (V.int j.KJ):=(aF o8 (aF qP dh))
theorem JV.UG(j:JV)(z:Int):bK "class_of" (V.int z) j.fs={j with KJ:=z}.fs:=(au o8 (au qP dM))
theorem JV.Uh(j:JV):j.fs.lookup ("priority" : Str)=some (V.int j.priority):=(aF oV (aF rJ (aF lG dh)))
theorem JV.V_(j:JV)(z:Int):bK "priority" (V.int z) j.fs={j with priority:=z}.fs:=(au oV (au rJ (au lG dM)))
theorem JV.ac1(j:JV):j.fs.lookup ("held" : Str)=some (V.bl j.held):=(aF u6 (aF yC (aF qU (aF qJ dh))))
theorem JV.U_(j:JV)(z:Bool):bK "held" (V.bl z) j.fs={j with held:=z}.fs:=(au u6 (au yC (au qU (au qJ dM))))
theorem JV.Ir(j:JV):j.fs.lookup ("tests" : Str)=some (V.ref j.tests):=(aF tD (aF wB (aF pJ (aF pH (aF vV dh)))))
theorem JV.Wz(j:JV)(z:Addr):bK "tests" (V.ref z) j.fs={j with tests:=z}.fs:=(au tD (au wB (au pJ (au pH (au vV dM)))))
theorem JV.abO(j:JV):j.fs.lookup ("state" : Str)=some (V.int j.state):=(aF sW (aF wL (aF pL (aF pM (aF wC (aF uN dh))))))
theorem JV.Qs(j:JV)(z:Int):bK "state" (V.int z) j.fs={j with state:=z}.fs:=(au sW (au wL (au pL (au pM (au wC (au uN dM))))))
theorem JV.acS(j:JV):j.fs.lookup ("code" : Str)=some (V.int j.code):=(aF uF (aF xR (aF qW (aF qR (aF xW (aF wz (aF vQ dh)))))))
theorem JV.acz(j:JV)(z:Int):bK "code" (V.int z) j.fs={j with code:=z}.fs:=(au uF (au xR (au qW (au qR (au xW (au wz (au vQ dM)))))))
theorem JV.Q9(j:JV):j.fs.lookup ("waited" : Str)=some (V.int j.waited):=(aF qT (aF uH (aF oO (aF oM (aF uO (aF tW (aF tM (aF vq dh))))))))
theorem JV.aaK(j:JV)(z:Int):bK "waited" (V.int z) j.fs={j with waited:=z}.fs:=(au qT (au uH (au oO (au oM (au uO (au tW (au tM (au vq dM))))))))
theorem JV.BK(j:JV):j.fs.lookup ("passed_over" : Str)=some (V.int j.sH):=(aF j6 (aF m9 (aF jf (aF jd (aF m7 (aF kh (aF lL (aF m_ (aF jX dh)))))))))
theorem JV.wy(j:JV)(z:Int):bK "passed_over" (V.int z) j.fs={j with sH:=z}.fs:=(au j6 (au m9 (au jf (au jd (au m7 (au kh (au lL (au m_ (au jX dM)))))))))
theorem JV.Ul(j:JV):j.fs.lookup ("due_turn" : Str)=some (V.int j.zz):=(aF oR (aF rF (aF lM (aF lg (aF rB (aF qC (aF pI (aF qO (aF oE (aF iY dh))))))))))
theorem JV.Cw(j:JV)(z:Int):bK "due_turn" (V.int z) j.fs={j with zz:=z}.fs:=(au oR (au rF (au lM (au lg (au rB (au qC (au pI (au qO (au oE (au iY dM))))))))))
theorem JV.Zg(z:V):bK "number" z []=([("number",z)]:List (Str×V)):=rfl
theorem JV.acE{x0:V}(z:V):bK "name" z [("number",x0)]=([("number",x0),("name",z)]:List (Str×V)):=(au z9 rfl)
theorem JV.Vf{x0 x1:V}(z:V):bK "class_of" z [("number",x0),("name",x1)]=([("number",x0),("name",x1),("class_of",z)]:List (Str×V)):=(au o8 (au qP rfl))
theorem JV.Vv{x0 x1 x2:V}(z:V):bK "priority" z [("number",x0),("name",x1),("class_of",x2)]=([("number",x0),("name",x1),("class_of",x2),("priority",z)]:List (Str×V)):=(au oV (au rJ (au lG rfl)))
theorem JV.ada{x0 x1 x2 x3:V}(z:V):bK "held" z [("number",x0),("name",x1),("class_of",x2),("priority",x3)]=([("number",x0),("name",x1),("class_of",x2),("priority",x3),("held",z)]:List (Str×V)):=(au u6 (au yC (au qU (au qJ rfl))))
theorem JV.abg{x0 x1 x2 x3 x4:V}(z:V):bK "tests" z [("number",x0),("name",x1),("class_of",x2),("priority",x3),("held",x4)]=([("number",x0),("name",x1),("class_of",x2),("priority",x3),("held",x4),("tests",z)]:List (Str×V)):=(au tD (au wB (au pJ (au pH (au vV rfl)))))
theorem JV.abH{x0 x1 x2 x3 x4 x5:V}(z:V):bK "state" z [("number",x0),("name",x1),("class_of",x2),("priority",x3),("held",x4),("tests",x5)]=([("number",x0),("name",x1),("class_of",x2),("priority",x3),("held",x4),("tests",x5),("state",z)]:List (Str×V)):=(au sW (au wL (au pL (au pM (au wC (au uN rfl))))))
theorem JV.ady{x0 x1 x2 x3 x4 x5 x6:V}(z:V):bK "code" z [("number",x0),("name",x1),("class_of",x2),("priority",x3),("held",x4),("tests",x5),("state",x6)]=([("number",x0),("name",x1),("class_of",x2),("priority",x3),("held",x4),("tests",x5),("state",x6),("code",z)]:List (Str×V)):=(au uF (au xR (au qW (au qR (au xW (au wz (au vQ rfl)))))))
theorem JV.aaa{x0 x1 x2 x3 x4 x5 x6 x7:V}(z:V):bK "waited" z [("number",x0),("name",x1),("class_of",x2),("priority",x3),("held",x4),("tests",x5),("state",x6),("code",x7)]=([("number",x0),("name",x1),("class_of",x2),("priority",x3),("held",x4),("tests",x5),("state",x6),("code",x7),("waited",z)]:List (Str×V)):=(au qT (au uH (au oO (au oM (au uO (au tW (au tM (au vq rfl))))))))
theorem JV.Lr{x0 x1 x2 x3 x4 x5 x6 x7 x8:V}(z:V):bK "passed_over" z [("number",x0),("name",x1),("class_of",x2),("priority",x3),("held",x4),("tests",x5),("state",x6),("code",x7),("waited",x8)]=([("number",x0),("name",x1),("class_of",x2),("priority",x3),("held",x4),("tests",x5),("state",x6),("code",x7),("waited",x8),("passed_over",z)]:List (Str×V)):=(au j6 (au m9 (au jf (au jd (au m7 (au kh (au lL (au m_ (au jX rfl)))))))))
theorem JV.TY{x0 x1 x2 x3 x4 x5 x6 x7 x8 x9:V}(z:V):bK "due_turn" z [("number",x0),("name",x1),("class_of",x2),("priority",x3),("held",x4),("tests",x5),("state",x6),("code",x7),("waited",x8),("passed_over",x9)]=([("number",x0),("name",x1),("class_of",x2),("priority",x3),("held",x4),("tests",x5),("state",x6),("code",x7),("waited",x8),("passed_over",x9),("due_turn",z)]:List (Str×V)):=(au oR (au rF (au lM (au lg (au rB (au qC (au pI (au qO (au oE (au iY rfl))))))))))
theorem wg:(("classes" : Str)==("on" : Str))=false:=by decide +kernel
theorem vh:(("draining" : Str)==("on" : Str))=false:=by decide +kernel
theorem mW:(("draining" : Str)==("classes" : Str))=false:=by decide +kernel
theorem Dw:(("runs" : Str)==("on" : Str))=false:=by decide +kernel
theorem tV:(("runs" : Str)==("classes" : Str))=false:=by decide +kernel
theorem rE:(("runs" : Str)==("draining" : Str))=false:=by decide +kernel
structure IV where
 on:Bool
 classes:Addr
 draining:Bool
 runs:Int
def IV.fs(j:IV):List (Str×V):=[("on",V.bl j.on),("classes",V.ref j.classes),("draining",V.bl j.draining),("runs",V.int j.runs)]
theorem IV.few(j:IV):j.fs.length<1000:=by show 4<1000;decide
theorem IV.aeh(j:IV):j.fs.lookup ("on" : Str)=some (V.bl j.on):=dh
theorem IV.ad5(j:IV)(z:Bool):bK "on" (V.bl z) j.fs={j with on:=z}.fs:=dM
theorem IV.Yc(j:IV):j.fs.lookup ("classes" : Str)=some (V.ref j.classes):=(aF wg dh)
theorem IV.GR(j:IV)(z:Addr):bK "classes" (V.ref z) j.fs={j with classes:=z}.fs:=(au wg dM)
theorem IV.JD(j:IV):j.fs.lookup ("draining" : Str)=some (V.bl j.draining):=(aF vh (aF mW dh))
theorem IV.Cz(j:IV)(z:Bool):bK "draining" (V.bl z) j.fs={j with draining:=z}.fs:=(au vh (au mW dM))
theorem IV.adq(j:IV):j.fs.lookup ("runs" : Str)=some (V.int j.runs):=(aF Dw (aF tV (aF rE dh)))
theorem IV.U0(j:IV)(z:Int):bK "runs" (V.int z) j.fs={j with runs:=z}.fs:=(au Dw (au tV (au rE dM)))
theorem IV.aed(z:V):bK "on" z []=([("on",z)]:List (Str×V)):=rfl
theorem IV.YL{x0:V}(z:V):bK "classes" z [("on",x0)]=([("on",x0),("classes",z)]:List (Str×V)):=(au wg rfl)
theorem IV.T8{x0 x1:V}(z:V):bK "draining" z [("on",x0),("classes",x1)]=([("on",x0),("classes",x1),("draining",z)]:List (Str×V)):=(au vh (au mW rfl))
theorem IV.adu{x0 x1 x2:V}(z:V):bK "runs" z [("on",x0),("classes",x1),("draining",x2)]=([("on",x0),("classes",x1),("draining",x2),("runs",z)]:List (Str×V)):=(au Dw (au tV (au rE rfl)))
theorem K_:(("k" : Str)==("cap" : Str))=false:=by decide +kernel
theorem JM:(("a" : Str)==("cap" : Str))=false:=by decide +kernel
theorem V2:(("a" : Str)==("k" : Str))=false:=by decide +kernel
theorem Ab:(("time" : Str)==("cap" : Str))=false:=by decide +kernel
theorem GF:(("time" : Str)==("k" : Str))=false:=by decide +kernel
theorem FP:(("time" : Str)==("a" : Str))=false:=by decide +kernel
theorem zV:(("jobs" : Str)==("cap" : Str))=false:=by decide +kernel
theorem FN:(("jobs" : Str)==("k" : Str))=false:=by decide +kernel
theorem Gs:(("jobs" : Str)==("a" : Str))=false:=by decide +kernel
theorem yl:(("jobs" : Str)==("time" : Str))=false:=by decide +kernel
theorem oA:(("last_number" : Str)==("cap" : Str))=false:=by decide +kernel
theorem qN:(("last_number" : Str)==("k" : Str))=false:=by decide +kernel
theorem rA:(("last_number" : Str)==("a" : Str))=false:=by decide +kernel
theorem mY:(("last_number" : Str)==("time" : Str))=false:=by decide +kernel
theorem mX:(("last_number" : Str)==("jobs" : Str))=false:=by decide +kernel
theorem lR:(("last_due_turn" : Str)==("cap" : Str))=false:=by decide +kernel
theorem ou:(("last_due_turn" : Str)==("k" : Str))=false:=by decide +kernel
theorem oH:(("last_due_turn" : Str)==("a" : Str))=false:=by decide +kernel
theorem j0:(("last_due_turn" : Str)==("time" : Str))=false:=by decide +kernel
theorem jV:(("last_due_turn" : Str)==("jobs" : Str))=false:=by decide +kernel
theorem fX:(("last_due_turn" : Str)==("last_number" : Str))=false:=by decide +kernel
theorem vZ:(("limits" : Str)==("cap" : Str))=false:=by decide +kernel
theorem Ag:(("limits" : Str)==("k" : Str))=false:=by decide +kernel
theorem zN:(("limits" : Str)==("a" : Str))=false:=by decide +kernel
theorem u9:(("limits" : Str)==("time" : Str))=false:=by decide +kernel
theorem vo:(("limits" : Str)==("jobs" : Str))=false:=by decide +kernel
theorem jW:(("limits" : Str)==("last_number" : Str))=false:=by decide +kernel
theorem je:(("limits" : Str)==("last_due_turn" : Str))=false:=by decide +kernel
theorem wK:(("closed" : Str)==("cap" : Str))=false:=by decide +kernel
theorem yS:(("closed" : Str)==("k" : Str))=false:=by decide +kernel
theorem yW:(("closed" : Str)==("a" : Str))=false:=by decide +kernel
theorem vg:(("closed" : Str)==("time" : Str))=false:=by decide +kernel
theorem vd:(("closed" : Str)==("jobs" : Str))=false:=by decide +kernel
theorem jY:(("closed" : Str)==("last_number" : Str))=false:=by decide +kernel
theorem jk:(("closed" : Str)==("last_due_turn" : Str))=false:=by decide +kernel
theorem qI:(("closed" : Str)==("limits" : Str))=false:=by decide +kernel
theorem p8:(("initiators" : Str)==("cap" : Str))=false:=by decide +kernel
theorem sX:(("initiators" : Str)==("k" : Str))=false:=by decide +kernel
theorem tE:(("initiators" : Str)==("a" : Str))=false:=by decide +kernel
theorem oF:(("initiators" : Str)==("time" : Str))=false:=by decide +kernel
theorem oY:(("initiators" : Str)==("jobs" : Str))=false:=by decide +kernel
theorem gU:(("initiators" : Str)==("last_number" : Str))=false:=by decide +kernel
theorem gq:(("initiators" : Str)==("last_due_turn" : Str))=false:=by decide +kernel
theorem kE:(("initiators" : Str)==("limits" : Str))=false:=by decide +kernel
theorem kZ:(("initiators" : Str)==("closed" : Str))=false:=by decide +kernel
structure BV where
 cap:Int
 k:Int
 a:Int
 time:Int
 jobs:Addr
 Aj:Int
 vL:Int
 limits:Addr
 closed:Addr
 initiators:Addr
def BV.fs(j:BV):List (Str×V):=[("cap",V.int j.cap),("k",V.int j.k),("a",V.int j.a),("time",V.int j.time),("jobs",V.ref j.jobs),("last_number",V.int j.Aj),("last_due_turn",V.int j.vL),("limits",V.ref j.limits),("closed",V.ref j.closed),("initiators",V.ref j.initiators)]
theorem BV.few(j:BV):j.fs.length<1000:=by show 10<1000;decide
theorem BV.ad1(j:BV):j.fs.lookup ("cap" : Str)=some (V.int j.cap):=dh
theorem BV.ad6(j:BV)(z:Int):bK "cap" (V.int z) j.fs={j with cap:=z}.fs:=dM
theorem BV.l_k(j:BV):j.fs.lookup ("k" : Str)=some (V.int j.k):=(aF K_ dh)
theorem BV.p_k(j:BV)(z:Int):bK "k" (V.int z) j.fs={j with k:=z}.fs:=(au K_ dM)
theorem BV.l_a(j:BV):j.fs.lookup ("a" : Str)=some (V.int j.a):=(aF JM (aF V2 dh))
theorem BV.p_a(j:BV)(z:Int):bK "a" (V.int z) j.fs={j with a:=z}.fs:=(au JM (au V2 dM))
theorem BV.aaX(j:BV):j.fs.lookup ("time" : Str)=some (V.int j.time):=(aF Ab (aF GF (aF FP dh)))
theorem BV.ZJ(j:BV)(z:Int):bK "time" (V.int z) j.fs={j with time:=z}.fs:=(au Ab (au GF (au FP dM)))
theorem BV.acV(j:BV):j.fs.lookup ("jobs" : Str)=some (V.ref j.jobs):=(aF zV (aF FN (aF Gs (aF yl dh))))
theorem BV.acU(j:BV)(z:Addr):bK "jobs" (V.ref z) j.fs={j with jobs:=z}.fs:=(au zV (au FN (au Gs (au yl dM))))
theorem BV.M4(j:BV):j.fs.lookup ("last_number" : Str)=some (V.int j.Aj):=(aF oA (aF qN (aF rA (aF mY (aF mX dh)))))
theorem BV.Cg(j:BV)(z:Int):bK "last_number" (V.int z) j.fs={j with Aj:=z}.fs:=(au oA (au qN (au rA (au mY (au mX dM)))))
theorem BV.yJ(j:BV):j.fs.lookup ("last_due_turn" : Str)=some (V.int j.vL):=(aF lR (aF ou (aF oH (aF j0 (aF jV (aF fX dh))))))
theorem BV.yF(j:BV)(z:Int):bK "last_due_turn" (V.int z) j.fs={j with vL:=z}.fs:=(au lR (au ou (au oH (au j0 (au jV (au fX dM))))))
theorem BV.aaw(j:BV):j.fs.lookup ("limits" : Str)=some (V.ref j.limits):=(aF vZ (aF Ag (aF zN (aF u9 (aF vo (aF jW (aF je dh)))))))
theorem BV.aaz(j:BV)(z:Addr):bK "limits" (V.ref z) j.fs={j with limits:=z}.fs:=(au vZ (au Ag (au zN (au u9 (au vo (au jW (au je dM)))))))
theorem BV.aaG(j:BV):j.fs.lookup ("closed" : Str)=some (V.ref j.closed):=(aF wK (aF yS (aF yW (aF vg (aF vd (aF jY (aF jk (aF qI dh))))))))
theorem BV.aak(j:BV)(z:Addr):bK "closed" (V.ref z) j.fs={j with closed:=z}.fs:=(au wK (au yS (au yW (au vg (au vd (au jY (au jk (au qI dM))))))))
theorem BV.QR(j:BV):j.fs.lookup ("initiators" : Str)=some (V.ref j.initiators):=(aF p8 (aF sX (aF tE (aF oF (aF oY (aF gU (aF gq (aF kE (aF kZ dh)))))))))
theorem BV.Ox(j:BV)(z:Addr):bK "initiators" (V.ref z) j.fs={j with initiators:=z}.fs:=(au p8 (au sX (au tE (au oF (au oY (au gU (au gq (au kE (au kZ dM)))))))))
theorem BV.adX(z:V):bK "cap" z []=([("cap",z)]:List (Str×V)):=rfl
theorem BV.i_k{x0:V}(z:V):bK "k" z [("cap",x0)]=([("cap",x0),("k",z)]:List (Str×V)):=(au K_ rfl)
theorem BV.i_a{x0 x1:V}(z:V):bK "a" z [("cap",x0),("k",x1)]=([("cap",x0),("k",x1),("a",z)]:List (Str×V)):=(au JM (au V2 rfl))
theorem BV.ac0{x0 x1 x2:V}(z:V):bK "time" z [("cap",x0),("k",x1),("a",x2)]=([("cap",x0),("k",x1),("a",x2),("time",z)]:List (Str×V)):=(au Ab (au GF (au FP rfl)))
theorem BV.adi{x0 x1 x2 x3:V}(z:V):bK "jobs" z [("cap",x0),("k",x1),("a",x2),("time",x3)]=([("cap",x0),("k",x1),("a",x2),("time",x3),("jobs",z)]:List (Str×V)):=(au zV (au FN (au Gs (au yl rfl))))
theorem BV.Mh{x0 x1 x2 x3 x4:V}(z:V):bK "last_number" z [("cap",x0),("k",x1),("a",x2),("time",x3),("jobs",x4)]=([("cap",x0),("k",x1),("a",x2),("time",x3),("jobs",x4),("last_number",z)]:List (Str×V)):=(au oA (au qN (au rA (au mY (au mX rfl)))))
theorem BV.Ia{x0 x1 x2 x3 x4 x5:V}(z:V):bK "last_due_turn" z [("cap",x0),("k",x1),("a",x2),("time",x3),("jobs",x4),("last_number",x5)]=([("cap",x0),("k",x1),("a",x2),("time",x3),("jobs",x4),("last_number",x5),("last_due_turn",z)]:List (Str×V)):=(au lR (au ou (au oH (au j0 (au jV (au fX rfl))))))
theorem BV.Zk{x0 x1 x2 x3 x4 x5 x6:V}(z:V):bK "limits" z [("cap",x0),("k",x1),("a",x2),("time",x3),("jobs",x4),("last_number",x5),("last_due_turn",x6)]=([("cap",x0),("k",x1),("a",x2),("time",x3),("jobs",x4),("last_number",x5),("last_due_turn",x6),("limits",z)]:List (Str×V)):=(au vZ (au Ag (au zN (au u9 (au vo (au jW (au je rfl)))))))
theorem BV.aa2{x0 x1 x2 x3 x4 x5 x6 x7:V}(z:V):bK "closed" z [("cap",x0),("k",x1),("a",x2),("time",x3),("jobs",x4),("last_number",x5),("last_due_turn",x6),("limits",x7)]=([("cap",x0),("k",x1),("a",x2),("time",x3),("jobs",x4),("last_number",x5),("last_due_turn",x6),("limits",x7),("closed",z)]:List (Str×V)):=(au wK (au yS (au yW (au vg (au vd (au jY (au jk (au qI rfl))))))))
theorem BV.QV{x0 x1 x2 x3 x4 x5 x6 x7 x8:V}(z:V):bK "initiators" z [("cap",x0),("k",x1),("a",x2),("time",x3),("jobs",x4),("last_number",x5),("last_due_turn",x6),("limits",x7),("closed",x8)]=([("cap",x0),("k",x1),("a",x2),("time",x3),("jobs",x4),("last_number",x5),("last_due_turn",x6),("limits",x7),("closed",x8),("initiators",z)]:List (Str×V)):=(au p8 (au sX (au tE (au oF (au oY (au gU (au gq (au kE (au kZ rfl)))))))))
theorem uM:(("place" : Str)==("calls" : Str))=false:=by decide +kernel
structure RV where
 calls:Addr
 place:Int
def RV.fs(j:RV):List (Str×V):=[("calls",V.ref j.calls),("place",V.int j.place)]
theorem RV.few(j:RV):j.fs.length<1000:=by show 2<1000;decide
theorem RV.O6(j:RV):j.fs.lookup ("calls" : Str)=some (V.ref j.calls):=dh
theorem RV.A_(j:RV):j.fs.lookup ("place" : Str)=some (V.int j.place):=(aF uM dh)
theorem RV.WT(j:RV)(z:Int):bK "place" (V.int z) j.fs={j with place:=z}.fs:=(au uM dM)
theorem RV.abu(z:V):bK "calls" z []=([("calls",z)]:List (Str×V)):=rfl
theorem RV.abp{x0:V}(z:V):bK "place" z [("calls",x0)]=([("calls",x0),("place",z)]:List (Str×V)):=(au uM rfl)
theorem Dz:(("is_at_end" : Str)==("calls" : Str))=false:=by decide +kernel
theorem Dm:(("is_at_end" : Str)==("place" : Str))=false:=by decide +kernel
theorem RV.O9(j:RV):j.fs.lookup ("is_at_end" : Str)=none:=aF Dz (aF Dm rfl)
theorem zG:(("take_number" : Str)==("calls" : Str))=false:=by decide +kernel
theorem zT:(("take_number" : Str)==("place" : Str))=false:=by decide +kernel
theorem RV.uZ(j:RV):j.fs.lookup ("take_number" : Str)=none:=aF zG (aF zT rfl)
theorem Eg:(("take_row" : Str)==("calls" : Str))=false:=by decide +kernel
theorem Ew:(("take_row" : Str)==("place" : Str))=false:=by decide +kernel
theorem RV.Rm(j:RV):j.fs.lookup ("take_row" : Str)=none:=aF Eg (aF Ew rfl)
theorem L_:(("number" : Str)==("cap" : Str))=false:=by decide +kernel
theorem Yp:(("on" : Str)==("cap" : Str))=false:=by decide +kernel
theorem QQ:(("number" : Str)==("on" : Str))=false:=by decide +kernel
theorem H_:(("number" : Str)==("calls" : Str))=false:=by decide +kernel
theorem Pk:(("cap" : Str)==("calls" : Str))=false:=by decide +kernel
theorem R6:(("on" : Str)==("calls" : Str))=false:=by decide +kernel
def Kp(a:Addr)(H H':Hp):Prop:=∀b o,H b=some o→b≠a→H' b=some o
theorem Kp.refl(a:Addr)(H:Hp):Kp a H H:=fun _ _ h _=>h
theorem Kp.trans{a:Addr}{H H1 H2:Hp}(x:Kp a H H1)(y:Kp a H1 H2):Kp a H H2:=fun b o h n=>y b o (x b o h n) n
theorem _root_.L2.aY.kp{H H':Hp}(s:aY H H')(a:Addr):Kp a H H':=fun b o h _=>s b o h
theorem Kp.upd(a:Addr)(H:Hp)(o:HO):Kp a H (upd H a o):=fun b q h n=>by rw[aO n];exact h
section
variable {K:PySem.W.Frag}{ta tv ty:TE}{σ:St}{H:Hp}{D:Ends}{a C dx:Addr}{fs:List (Str×V)}{f:Str}{y:V}
theorem bT(hv:Ev tv σ H y)(ha:Ev ta σ H (.ref a))(e:H a=some (.ins C dx fs))(c:Cls K C)(n:cJ K C f)(hl:fs.length<1000)
  (k:∀H',Kp a H H'→H' a=some (.ins C dx (bK f y fs))→D.nx σ H'):ac5 K ta tv f D σ H :=
 Ev.use hv fun H1 s1=>(Ev.use (ha.up s1) fun H2 s2=>⟨a,C,dx,fs,rfl,s2 _ _ (s1 _ _ e),c,n,hl,k _ (((s1.trans s2).kp a).trans (Kp.upd a H2 _)) aX⟩)
theorem FQ{i j:Int}(hv:Ev tv σ H (.int j))(ha:Ev ta σ H (.ref a))(e:H a=some (.ins C dx fs))(c:Cls K C)(n:cJ K C f)(hl:fs.length<1000)(lk:fs.lookup f=some (.int i))
  (k:∀H',Kp a H H'→H' a=some (.ins C dx (bK f (.int (i+j)) fs))→D.nx σ H'):WQ K ta tv adS f D σ H :=
 Ev.use ha fun H1 s1=>⟨a,C,dx,fs,.int i,rfl,s1 _ _ e,c,n,lk,Ev.use (hv.up s1) fun H2 s2=>⟨i,j,rfl,rfl,dx,fs,s2 _ _ (s1 _ _ e),hl,k _ (((s1.trans s2).kp a).trans (Kp.upd a H2 _)) aX⟩⟩
theorem Pz{d:Addr}{kvs:List (Key×V)}{n:Int}(hv:Ev tv σ H y)(ha:Ev ta σ H (.ref d))(hk:Ev ty σ H (.int n))(e:H d=some (.dK kvs))(hl:kvs.length<sizeLine)
  (k:∀H',Kp d H H'→H' d=some (.dK (putK kvs (Sum.inl n) y))→D.nx σ H'):Zr ta ty tv D σ H :=
 Ev.use hv fun H1 s1=>(Ev.use (ha.up s1) fun H2 s2=>(Ev.use (hk.up (s1.trans s2)) fun H3 s3 =>
  have s:=s1.trans (s2.trans s3)
  ⟨d,_,rfl,Yw.k (k:=Sum.inl n) (s _ _ e) hl,k _ ((s.kp d).trans (Kp.upd d H3 _)) aX⟩))
theorem W0{R:V→Hp→Prop}{d:Addr}{kvs:List (Key×V)}{n:Int}(hv:EvP tv σ H R)(m:Tz R)(ha:Ev ta σ H (.ref d))(hk:Ev ty σ H (.int n))(e:H d=some (.dK kvs))(hl:kvs.length<sizeLine)
  (k:∀y H1 H',aY H H1→R y H1→Kp d H1 H'→H' d=some (.dK (putK kvs (Sum.inl n) y))→D.nx σ H'):Zr ta ty tv D σ H :=
 EvP.use hv fun y H1 s1 r=>(Ev.use (ha.up s1) fun H2 s2=>(Ev.use (hk.up (s1.trans s2)) fun H3 s3 =>
  have s:=s1.trans (s2.trans s3)
  ⟨d,_,rfl,Yw.k (k:=Sum.inl n) (s _ _ e) hl,k y H1 _ s1 r (((s2.trans s3).kp d).trans (Kp.upd d H3 _)) aX⟩))
end
def fY{α:Type}(f:α→V):Nat→List α→List (Key×V)
 |_,[]=>[]
 |n,x::r=>(Sum.inl (n:Int),f x)::fY f (n+1) r
theorem wM{α:Type}(f:α→V):∀(n:Nat) (l:List α),(fY f n l).length=l.length
 |_,[]=>rfl
 |n,x::r=>by show(fY f (n+1) r).length+1=r.length+1;rw[wM f]
theorem ux{k j:Key}{v:V}{r:List (Key×V)}:j_ ((k,v)::r) j=if k=j then some v else j_ r j:=by
 unfold j_
 rw[List.find?_cons]
 by_cases h:k=j
 ·simp[h]
 ·simp[h]
theorem xG{α:Type}(f:α→V):∀(l:List α) (n:Nat) (i:Nat) (x:α),l[i]?=some x→j_ (fY f n l) (Sum.inl ((n+i:Nat):Int))=some (f x)
 |[],n,i,x,h=>by simp at h
 |y::r,n,0,x,h=>by
  have e:y=x:=by simpa using h
  show j_ ((Sum.inl (n:Int),f y)::_) _=_
  rw[ux,if_pos (by simp),e]
 |y::r,n,i+1,x,h=>by
  show j_ ((Sum.inl (n:Int),f y)::_) _=_
  rw[ux,if_neg (by simp;omega)]
  have:=xG f r (n+1) i x (by simpa using h)
  rw[show n+(i+1)=n+1+i by omega]
  exact this
theorem Oh{α:Type}(f:α→V):∀(l:List α) (n:Nat) (z:Int),(z<n∨(n+l.length:Nat)≤z)→j_ (fY f n l) (Sum.inl z)=none
 |[],n,z,_=>rfl
 |y::r,n,z,h=>by
  show j_ ((Sum.inl (n:Int),f y)::_) _=_
  rw[List.length_cons]at h
  rw[ux,if_neg (by intro q;have:=Sum.inl.inj q;omega)]
  exact Oh f r (n+1) z (by omega)
theorem TF{α:Type}(f:α→V):∀(l:List α) (n i:Nat) (x:α),(fY f n l).map (fun kv=>if kv.1=(Sum.inl ((n+i:Nat):Int):Key)then (kv.1,f x)else kv)=fY f n (l.set i x)
 |[],n,i,x=>rfl
 |y::r,n,0,x=>by
  show(if (Sum.inl (n:Int):Key)=Sum.inl ((n+0:Nat):Int)then _ else _)::(fY f (n+1) r).map _=(Sum.inl (n:Int),f x)::fY f (n+1) r
  rw[if_pos (by simp)]
  congr 1
  have h:∀(l:List α) (m:Nat),n<m→(fY f m l).map (fun kv=>if kv.1=(Sum.inl ((n+0:Nat):Int):Key)then (kv.1,f x)else kv)=fY f m l:=by
   intro l
   induction l with
   |nil=>intro m _;rfl
   |cons z l ih =>
    intro m hm
    show(if (Sum.inl (m:Int):Key)=Sum.inl ((n+0:Nat):Int)then _ else _)::(fY f (m+1) l).map _=(Sum.inl (m:Int),f z)::fY f (m+1) l
    rw[if_neg (by intro q;have:=Sum.inl.inj q;omega),ih (m+1) (by omega)]
  exact h r (n+1) (by omega)
 |y::r,n,i+1,x=>by
  show(if (Sum.inl (n:Int):Key)=Sum.inl ((n+(i+1):Nat):Int)then _ else _)::(fY f (n+1) r).map _=(Sum.inl (n:Int),f y)::fY f (n+1) (r.set i x)
  rw[if_neg (by intro q;have:=Sum.inl.inj q;omega)]
  congr 1
  have:=TF f r (n+1) i x
  rw[show n+1+i=n+(i+1)by omega]at this
  exact this
theorem Tu{α:Type}(f:α→V){l:List α}{n i:Nat}(x:α)(h:i<l.length):putK (fY f n l) (Sum.inl ((n+i:Nat):Int)) (f x)=fY f n (l.set i x):=by
 unfold putK
 rw[if_pos (by rw[Eu,xG f l n i l[i] (by simp[h])];rfl)]
 exact TF f l n i x
theorem NP{α:Type}(f:α→V):∀(l:List α) (n:Nat) (x:α),fY f n (l++[x])=fY f n l++[(Sum.inl ((n+l.length:Nat):Int),f x)]
 |[],n,x=>rfl
 |y::r,n,x=>by
  show(Sum.inl (n:Int),f y)::fY f (n+1) (r++[x])=(Sum.inl (n:Int),f y)::(fY f (n+1) r++_)
  rw[NP f r (n+1) x,List.length_cons,show n+1+r.length=n+(r.length+1)by omega]
theorem Kl{α:Type}(f:α→V){l:List α}{n:Nat}(x:α):putK (fY f n l) (Sum.inl ((n+l.length:Nat):Int)) (f x)=fY f n (l++[x]):=by
 rw[RD _ (Oh f l n _ (.inr (Int.le_refl _))),NP]
theorem Bg{α:Type}(f:α→V):∀{l:List α} {i:Nat} {x y:α} (n:Nat),l[i]?=some x→f y=f x→fY f n (l.set i y)=fY f n l
 |[],i,x,y,n,h,_=>by simp at h
 |z::r,0,x,y,n,h,e=>by
  have h:z=x:=by simpa using h
  subst h
  show(Sum.inl (n:Int),f y)::fY f (n+1) r=(Sum.inl (n:Int),f z)::fY f (n+1) r
  rw[e]
 |z::r,i+1,x,y,n,h,e=>by
  show(Sum.inl (n:Int),f z)::fY f (n+1) (r.set i y)=(Sum.inl (n:Int),f z)::fY f (n+1) r
  rw[Bg f (n+1) (by simpa using h) e]
def rC(L:List (Addr×Vbbhaj.Job)):List (Key×V):=L.map fun p=>(Sum.inl (p.2.num:Int),V.ref p.1)
theorem zg{L:List (Addr×Vbbhaj.Job)}{p:Addr×Vbbhaj.Job}(hs:cW (L.map (·.2)))(hp:p∈L):j_ (rC L) (Sum.inl (p.2.num:Int))=some (.ref p.1):=by
 induction L with
 |nil=>cases hp
 |cons q L ih =>
  show j_ ((Sum.inl (q.2.num:Int),V.ref q.1)::rC L) _=_
  rw[ux]
  obtain⟨h1,h2⟩:=List.pairwise_cons.mp hs
  rcases List.mem_cons.mp hp with e|hp
  ·rw[e,if_pos rfl]
  ·rw[if_neg (by
    intro z
    have z:=Sum.inl.inj z
    have h3:q.2.num<p.2.num:=h1 p.2 (List.mem_map_of_mem (f:=(·.2)) hp)
    omega)]
   exact ih h2 hp
theorem XQ{L:List (Addr×Vbbhaj.Job)}{z:Int}(h:∀p∈L,(p.2.num:Int)≠z):j_ (rC L) (Sum.inl z)=none:=by
 induction L with
 |nil=>rfl
 |cons q L ih =>
  show j_ ((Sum.inl (q.2.num:Int),V.ref q.1)::rC L) _=_
  rw[ux,if_neg (fun z=>h q List.mem_cons_self (Sum.inl.inj z))]
  exact ih fun p hp=>h p (List.mem_cons_of_mem _ hp)
theorem YM{L:List (Addr×Vbbhaj.Job)}{z:Int}:(j_ (rC L) (Sum.inl z)).isSome=(tX (L.map (·.2)) z).isSome:=by
 induction L with
 |nil=>rfl
 |cons q L ih =>
  show(j_ ((Sum.inl (q.2.num:Int),V.ref q.1)::rC L) _).isSome=(List.find? _ (q.2::L.map (·.2))).isSome
  rw[ux,List.find?_cons]
  by_cases h:(q.2.num:Int)=z
  ·simp[h]
  ·rw[if_neg (fun e=>h (Sum.inl.inj e)),show((q.2.num:Int)==z)=false by simpa using h]
   exact ih
theorem Qz{L:List (Addr×Vbbhaj.Job)}{z:Int}{j:Vbbhaj.Job}(h:tX (L.map (·.2)) z=some j):∃a,(a,j)∈L∧(j.num:Int)=z:=by
 obtain⟨h1,h2⟩:=iJ h
 obtain⟨p,hp,e⟩:=List.mem_map.mp h1
 exact⟨p.1,by rw[← e];exact hp,h2⟩
def yN:Vbbhaj.Status→Int
 |.waiting=>0
 |.running=>1
 |.ended (.code _)=>2
 |.ended (.abend _)=>3
 |.ended .flushed=>4
 |.ended .cancelled=>5
def JL:Vbbhaj.Status→Int
 |.ended (.code n)=>n
 |.ended (.abend n)=>n
 |_=>0
def tri(t:Vbbhaj.Test):Int×Int×Int:=(t.job,t.kind,t.n)
def pX(H:Hp)(l:Addr)(ts:List Vbbhaj.Test):Prop:=∃ps:List (Addr×Int×Int×Int),ps.map (·.2)=ts.map tri∧Bu H ps (.ref l)
def KR(H:Hp)(l:Addr)(b:Vbbhaj.Bytes):Prop:=H l=some (.lst (b.map fun c=>V.int c.toNat))
def jv(j:Vbbhaj.Job)(na ta:Addr):JV:=⟨j.num,na,j.cls,j.prio,j.held,ta,yN j.status,JL j.status,j.waited,j.passed,j.due⟩
section
variable {K:PySem.W.Frag}{mg:Str→Option Value}(T:Txt K mg)
def cT(H:Hp)(a:Addr)(j:Vbbhaj.Job):Prop:=∃dx na ta,H a=some (.ins T.gQ dx (jv j na ta).fs)∧KR H na j.name∧pX H ta j.tests
def nT(H:Hp)(a:Addr)(x:Vbbhaj.Init):Prop:=∃dx ca,H a=some (.ins T.bW dx (IV.mk x.on ca x.draining x.job).fs)∧H ca=some (.lst (x.classes.map fun c:Nat=>V.int c))
def TabAt(H:Hp)(p:Addr)(qual:Str):Prop:=∃ps:Array Value,H p=some (.tbl ps)∧TriplesOk ps.toList∧∀pos cv,codeAmong pos ps.toList=some cv→∃c,cv=.ref c∧H c=some (.ext fun h=>h.CodeRec (.ref c) qual)
def Kg(H:Hp):Prop:=TabAt H T.mR "chosen_job.<locals>.<lambda>"∧TabAt H T.mH "tell_order.<locals>.<lambda>"
structure Ad where
 b:Addr
 dj:Addr
 dl:Addr
 dc:Addr
 di:Addr
 L:List (Addr×Vbbhaj.Job)
 I:List (Addr×Vbbhaj.Init)
def bv(A:Ad)(s:Vbbhaj.State):BV:=⟨s.cap,s.passes,s.aging,s.now,A.dj,(s.next:Int) - 1,(s.stamp:Int) - 1,A.dl,A.dc,A.di⟩
structure Rep(H:Hp)(A:Ad)(s:Vbbhaj.State):Prop where
 brd:∃dx,H A.b=some (.ins T.d_ dx (bv A s).fs)
 jobs:H A.dj=some (.dK (rC A.L))
 lim:H A.dl=some (.dK (fY (fun c:Vbbhaj.Class=>V.int c.limit) 1 s.classes))
 clo:H A.dc=some (.dK (fY (fun c:Vbbhaj.Class=>V.bl c.closed) 1 s.classes))
 ini:H A.di=some (.dK (fY (fun p:Addr×Vbbhaj.Init=>V.ref p.1) 1 A.I))
 js:A.L.map (·.2)=s.jobs
 is:A.I.map (·.2)=s.inits
 job:∀p∈A.L,cT T H p.1 p.2
 int:∀p∈A.I,nT T H p.1 p.2
 ndj:(A.L.map (·.1)).Nodup
 ndi:(A.I.map (·.1)).Nodup
 dd:A.dl≠A.dc∧A.dj≠A.dl∧A.dj≠A.dc∧A.di≠A.dl∧A.di≠A.dc∧A.dj≠A.di
 srt:cW s.jobs
 few:s.jobs.length≤500
 tabs:Kg T H
end
section
variable {K:PySem.W.Frag}{mg:Str→Option Value}{T:Txt K mg}{H H':Hp}{a a':Addr}{j:Vbbhaj.Job}{x:Vbbhaj.Init}{A:Ad}{s:Vbbhaj.State}
theorem pX.up'{l:Addr}{ts:List Vbbhaj.Test}(h:pX H l ts)(s1:∀p xs,H p=some (.lst xs)→H' p=some (.lst xs))(s2:∀p xs,H p=some (.tup xs)→H' p=some (.tup xs)):pX H' l ts :=
 let ⟨ps,e,l',e',h1,h2⟩:=h;⟨ps,e,l',e',s1 _ _ h1,fun p hp=>s2 _ _ (h2 p hp)⟩
theorem pX.up{l:Addr}{ts:List Vbbhaj.Test}(h:pX H l ts)(s:aY H H'):pX H' l ts:=h.up' (fun p xs e=>s _ _ e) fun p xs e=>s _ _ e
theorem cT.up(h:cT T H a j)(s:aY H H'):cT T H' a j:=let ⟨dx,na,ta,e,n,t⟩:=h;⟨dx,na,ta,s _ _ e,s _ _ n,t.up s⟩
theorem nT.up(h:nT T H a x)(s:aY H H'):nT T H' a x:=let ⟨dx,ca,e,n⟩:=h;⟨dx,ca,s _ _ e,s _ _ n⟩
theorem TabAt.up{p:Addr}{q:Str}(h:TabAt H p q)(s:aY H H'):TabAt H' p q:=let ⟨ps,e,t,k⟩:=h;⟨ps,s _ _ e,t,fun pos cv z=>let ⟨c,e1,e2⟩:=k pos cv z;⟨c,e1,s _ _ e2⟩⟩
theorem Kg.up(h:Kg T H)(s:aY H H'):Kg T H':=⟨h.1.up s,h.2.up s⟩
theorem Rep.up(h:Rep T H A s)(q:aY H H'):Rep T H' A s :=
 ⟨let ⟨dx,e⟩:=h.brd;⟨dx,q _ _ e⟩,q _ _ h.jobs,q _ _ h.lim,q _ _ h.clo,q _ _ h.ini,h.js,h.is,fun p hp=>(h.job p hp).up q,fun p hp=>(h.int p hp).up q,h.ndj,h.ndi,h.dd,h.srt,h.few,h.tabs.up q⟩
def Wr(H:Hp)(a:Addr):Prop:=(∃C dx fs,H a=some (.ins C dx fs))∨∃kvs,H a=some (.dK kvs)
theorem Wr.lst(w:Wr H a){b:Addr}{xs:List V}(e:H b=some (.lst xs)):b≠a:=by
 rcases w with ⟨C,dx,fs,w⟩|⟨kvs,w⟩
 ·exact cB e w (by intro z;cases z)
 ·exact cB e w (by intro z;cases z)
theorem Wr.tup(w:Wr H a){b:Addr}{xs:List V}(e:H b=some (.tup xs)):b≠a:=by
 rcases w with ⟨C,dx,fs,w⟩|⟨kvs,w⟩
 ·exact cB e w (by intro z;cases z)
 ·exact cB e w (by intro z;cases z)
theorem Wr.no(w:Wr H a){b:Addr}{o:HO}(e:H b=some o)(n1:∀C dx fs,o≠.ins C dx fs)(n2:∀kvs,o≠.dK kvs):b≠a:=by
 rcases w with ⟨C,dx,fs,w⟩|⟨kvs,w⟩
 ·exact cB e w (n1 _ _ _)
 ·exact cB e w (n2 _)
theorem TabAt.kp{p:Addr}{q:Str}(h:TabAt H p q)(k:Kp a H H')(w:Wr H a):TabAt H' p q :=
 let ⟨ps,e,t,g⟩:=h
 ⟨ps,k _ _ e (w.no e (by intro _ _ _ z;cases z) (by intro _ z;cases z)),t,fun pos cv z=>let ⟨c,e1,e2⟩:=g pos cv z;⟨c,e1,k _ _ e2 (w.no e2 (by intro _ _ _ z;cases z) (by intro _ z;cases z))⟩⟩
theorem Kg.kp(h:Kg T H)(k:Kp a H H')(w:Wr H a):Kg T H':=⟨h.1.kp k w,h.2.kp k w⟩
theorem cT.kp(h:cT T H a' j)(k:Kp a H H')(w:Wr H a)(n:a'≠a):cT T H' a' j :=
 let ⟨dx,na,ta,e,m,t⟩:=h
 ⟨dx,na,ta,k _ _ e n,k _ _ m (w.lst m),t.up' (fun p xs q=>k _ _ q (w.lst q)) fun p xs q=>k _ _ q (w.tup q)⟩
theorem nT.kp(h:nT T H a' x)(k:Kp a H H')(w:Wr H a)(n:a'≠a):nT T H' a' x :=
 let ⟨dx,ca,e,m⟩:=h
 ⟨dx,ca,k _ _ e n,k _ _ m (w.lst m)⟩
theorem V7{C C' dx dx' b:Addr}{f g:Str}{v v':V}{fs fs':List (Str×V)}(h:H a=some (.ins C dx ((f,v)::fs)))(h':H b=some (.ins C' dx' ((g,v')::fs')))(n:(f==g)=false):a≠b :=
 cB h h' fun z=>by
  injection z with z1 z2 z3
  injection z3 with z4 z5
  injection z4 with z6 z7
  rw[z6,beq_self_eq_true]at n
  cases n
theorem cT.wr(h:cT T H a j):Wr H a:=let ⟨dx,na,ta,e,_⟩:=h;.inl ⟨_,_,_,e⟩
theorem nT.wr(h:nT T H a x):Wr H a:=let ⟨dx,ca,e,_⟩:=h;.inl ⟨_,_,_,e⟩
theorem J3(h:cT T H a j)(h':nT T H a' x):a≠a':=by
 obtain⟨dx,na,ta,e,_⟩:=h
 obtain⟨dx',ca,e',_⟩:=h'
 exact V7 e e' QQ
theorem Rep.SN(h:Rep T H A s)(hj:cT T H a j):a≠A.b:=by
 obtain⟨dx,na,ta,e,_⟩:=hj
 obtain⟨dx',e'⟩:=h.brd
 exact V7 e e' L_
theorem Rep.Tv(h:Rep T H A s)(hj:nT T H a x):a≠A.b:=by
 obtain⟨dx,ca,e,_⟩:=hj
 obtain⟨dx',e'⟩:=h.brd
 exact V7 e e' Yp
theorem cP{C dx:Addr}{fs:List (Str×V)}{kvs:List (Key×V)}(h:H a=some (.ins C dx fs))(h':H a'=some (.dK kvs)):a'≠a:=cB h' h (by intro z;cases z)
theorem Rep.setJob(h:Rep T H A s){j j':Vbbhaj.Job}(hp:(a,j)∈A.L)(k:Kp a H H')(hj':cT T H' a j')(e:j'.num=j.num) :
  Rep T H' {A with L:=A.L.map fun p=>if p.2.num=j'.num then (p.1,j')else p} {s with jobs:=Vbbhaj.setJob s.jobs j'}:=by
 have hj:=h.job _ hp
 obtain⟨dx0,na,ta,e0,_,_⟩:=id hj
 have w:=hj.wr
 have srt:cW (A.L.map (·.2)):=by rw[h.js];exact h.srt
 have uniq:∀p∈A.L,p.2.num=j'.num→p=(a,j):=fun p hp' q=>by
  have q2:p.2=j:=srt.inj (List.mem_map_of_mem hp') (List.mem_map_of_mem hp) (by rw[q,e])
  obtain⟨b,i⟩:=p
  have q2:i=j:=q2
  subst q2
  have:∀(L:List (Addr×Vbbhaj.Job)),cW (L.map (·.2))→(b,i)∈L→(a,i)∈L→b=a:=by
   intro L
   induction L with
   |nil=>intro _ z;cases z
   |cons q L ih =>
    intro hs m1 m2
    obtain⟨h1,h2⟩:=List.pairwise_cons.mp hs
    rcases List.mem_cons.mp m1 with z1|z1
    ·rcases List.mem_cons.mp m2 with z2 | z2
     ·exact(Prod.mk.inj (z1.trans z2.symm)).1
     ·have:=h1 i (List.mem_map_of_mem (f:=(·.2)) z2)
      rw[← z1]at this
      exact absurd this (Nat.lt_irrefl _)
    ·rcases List.mem_cons.mp m2 with z2 | z2
     ·have:=h1 i (List.mem_map_of_mem (f:=(·.2)) z1)
      rw[← z2]at this
      exact absurd this (Nat.lt_irrefl _)
     ·exact ih h2 z1 z2
  rw[this _ srt hp' hp]
 have keepA:(A.L.map fun p=>if p.2.num=j'.num then (p.1,j')else p).map (·.1)=A.L.map (·.1):=by
  rw[List.map_map]
  exact List.map_congr_left fun p _=>by
   show(if p.2.num=j'.num then (p.1,j')else p).1=p.1
   split<;>rfl
 refine⟨?_,?_,k _ _ h.lim (cP e0 h.lim),k _ _ h.clo (cP e0 h.clo),k _ _ h.ini (cP e0 h.ini),?_,h.is,?_,fun p hp'=>(h.int p hp').kp k w (J3 hj (h.int p hp')).symm,by rw[keepA];exact h.ndj,h.ndi,h.dd,h.srt.vC (su _ _),by show(Vbbhaj.setJob s.jobs j').length≤500;unfold Vbbhaj.setJob;rw[List.length_map];exact h.few,h.tabs.kp k w⟩
 ·obtain⟨dx1,e1⟩:=h.brd
  exact⟨dx1,k _ _ e1 (h.SN hj).symm⟩
 ·have e2:rC (A.L.map fun p=>if p.2.num=j'.num then (p.1,j')else p)=rC A.L:=by
   unfold rC
   rw[List.map_map]
   refine List.map_congr_left fun p _=>?_
   show((Sum.inl ((if p.2.num=j'.num then (p.1,j')else p).2.num:Int):Key),V.ref (if p.2.num=j'.num then (p.1,j')else p).1)=_
   split
   ·rename_i q
    rw[← q]
   ·rfl
  show H' A.dj=some (.dK (rC (A.L.map fun p=>if p.2.num=j'.num then (p.1,j')else p)))
  rw[e2]
  exact k _ _ h.jobs (cP e0 h.jobs)
 ·show(A.L.map fun p=>if p.2.num=j'.num then (p.1,j')else p).map (·.2)=Vbbhaj.setJob s.jobs j'
  rw[← h.js]
  unfold Vbbhaj.setJob
  rw[List.map_map,List.map_map]
  refine List.map_congr_left fun p _=>?_
  show(if p.2.num=j'.num then (p.1,j')else p).2=if p.2.num=j'.num then j' else p.2
  split<;>rfl
 ·intro p hp'
  obtain⟨q,hq,rfl⟩:=List.mem_map.mp hp'
  by_cases z:q.2.num=j'.num
  ·rw[if_pos z]
   rw[uniq q hq z]
   exact hj'
  ·rw[if_neg z]
   refine(h.job q hq).kp k w fun z2=>z ?_
   have:q=(a,j):=by
    obtain⟨i1,h1,e1⟩:=List.getElem_of_mem hq
    obtain⟨i2,h2,e2⟩:=List.getElem_of_mem hp
    have e3:(A.L.map (·.1))[i1]?=some a:=by rw[List.getElem?_map,List.getElem?_eq_getElem h1,e1,← z2];rfl
    have e4:(A.L.map (·.1))[i2]?=some a:=by rw[List.getElem?_map,List.getElem?_eq_getElem h2,e2];rfl
    have:=aci h.ndj e3 e4
    subst this
    rw[← e1,← e2]
   rw[this,e]
theorem Rep.setInt(h:Rep T H A s){i:Nat}{x x':Vbbhaj.Init}(hi:A.I[i]?=some (a,x))(k:Kp a H H')(hx':nT T H' a x') :
  Rep T H' {A with I:=A.I.set i (a,x')} {s with inits:=s.inits.set i x'}:=by
 have hm:(a,x)∈A.I:=List.mem_of_getElem? hi
 have hx:=h.int _ hm
 obtain⟨dx0,ca,e0,_⟩:=id hx
 have w:=hx.wr
 have hil:i<A.I.length:=(List.getElem?_eq_some_iff.mp hi).1
 refine⟨?_,k _ _ h.jobs (cP e0 h.jobs),k _ _ h.lim (cP e0 h.lim),k _ _ h.clo (cP e0 h.clo),?_,h.js,?_,fun p hp=>(h.job p hp).kp k w (J3 (h.job p hp) hx),fun p hp=>?_,h.ndj,?_,h.dd,h.srt,h.few,h.tabs.kp k w⟩
 ·obtain⟨dx1,e1⟩:=h.brd
  exact⟨dx1,k _ _ e1 (h.Tv hx).symm⟩
 ·have e2:fY (fun p:Addr×Vbbhaj.Init=>V.ref p.1) 1 (A.I.set i (a,x'))=fY (fun p:Addr×Vbbhaj.Init=>V.ref p.1) 1 A.I:=Bg _ 1 hi rfl
  show H' A.di=some (.dK (fY (fun p:Addr×Vbbhaj.Init=>V.ref p.1) 1 (A.I.set i (a,x'))))
  rw[e2]
  exact k _ _ h.ini (cP e0 h.ini)
 ·show(A.I.set i (a,x')).map (·.2)=s.inits.set i x'
  rw[List.map_set,h.is]
 ·obtain⟨j,hj⟩:=List.mem_iff_getElem?.mp hp
  have hj:(A.I.set i (a,x'))[j]?=some p:=hj
  by_cases z:i=j
  ·subst z
   rw[List.getElem?_set_self hil]at hj
   cases hj
   exact hx'
  ·rw[List.getElem?_set_ne z]at hj
   refine(h.int p (List.mem_of_getElem? hj)).kp k w fun q=>z ?_
   exact aci h.ndi (x:=a) (by rw[List.getElem?_map,hi];rfl) (by rw[List.getElem?_map,hj,← q];rfl)
 ·show((A.I.set i (a,x')).map (·.1)).Nodup
  rw[List.map_set]
  have e3:(A.I.map (·.1)).set i a=A.I.map (·.1):=by
   have:(A.I.map (·.1))[i]?=some a:=by rw[List.getElem?_map,hi];rfl
   obtain⟨hlt,e⟩:=List.getElem?_eq_some_iff.mp this
   rw[← e,List.set_getElem_self]
  rw[e3]
  exact h.ndi
end
def Ql:HO→Bool
 |.lst _=>true
 |.tup _=>true
 |.frz _ _=>true
 |.ins _ _ ((f,_)::_)=>f==("calls" : Str)
 |_=>false
def Fix(H H':Hp):Prop:=∀b o,H b=some o→Ql o=true→H' b=some o
theorem Fix.refl(H:Hp):Fix H H:=fun _ _ h _=>h
theorem Fix.trans{H H1 H2:Hp}(a:Fix H H1)(b:Fix H1 H2):Fix H H2:=fun c o h f=>b c o (a c o h f) f
theorem _root_.L2.aY.fix{H H':Hp}(s:aY H H'):Fix H H':=fun b o h _=>s b o h
theorem Kp.fix{a:Addr}{H H':Hp}{o':HO}(k:Kp a H H')(e:H a=some o')(f:Ql o'=false):Fix H H':=fun b o h g=>k b o h fun z=>by
 subst z
 rw[e]at h
 cases h
 rw[f]at g
 cases g
theorem WL(j:JV)(C dx:Addr):Ql (.ins C dx j.fs)=false:=H_
theorem abN(j:IV)(C dx:Addr):Ql (.ins C dx j.fs)=false:=R6
theorem Iu(j:BV)(C dx:Addr):Ql (.ins C dx j.fs)=false:=Pk
theorem W4(kvs:List (Key×V)):Ql (.dK kvs)=false:=rfl
def Mi(a:Vbbhaj.Ans):List Int:=a.num::a.rows.flatMap fun r=>(r.length:Int)::r.map Int.ofNat
def wu(a:Vbbhaj.Ans):List V:=(Mi a).map V.int
open Classical in
noncomputable def hid (X:Addr→Prop) (H:Hp):Hp:=fun b=>if X b then none else H b
section
variable {K:PySem.W.Frag}{mg:Str→Option Value}{T:Txt K mg}{X:Addr→Prop}{H H':Hp}{a b:Addr}{j:Vbbhaj.Job}{A:Ad}{s:Vbbhaj.State}{o:HO}
theorem bM(h:hid X H b=some o):¬X b∧H b=some o:=by
 unfold hid at h
 by_cases q:X b
 ·rw[if_pos q]at h;cases h
 ·rw[if_neg q]at h;exact⟨q,h⟩
theorem cu(q:¬X b):hid X H b=H b:=by unfold hid;rw[if_neg q]
theorem aaW:aY (hid X H) H:=fun b o h=>(bM h).2
theorem Er(s:aY H H'):aY (hid X H) (hid X H'):=fun b o h=>by
 obtain⟨q,e⟩:=bM h
 rw[cu q]
 exact s _ _ e
theorem Kp.hid(k:Kp a H H'):Kp a (hid X H) (hid X H'):=fun b o h n=>by
 obtain⟨q,e⟩:=bM h
 rw[cu q]
 exact k _ _ e n
structure RX(T:Txt K mg)(X:Addr→Prop)(H:Hp)(A:Ad)(s:Vbbhaj.State):Prop where
 r:Rep T (hid X H) A s
 x:∀b,X b→H b≠none
theorem RX.rep(h:RX T X H A s):Rep T H A s:=h.r.up aaW
theorem RX.up(h:RX T X H A s)(q:aY H H'):RX T X H' A s:=⟨h.r.up (Er q),fun b hb e=>h.x b hb (q.free e)⟩
theorem RX.keep(h:RX T X H A s)(k:Kp a H H')(na:¬X a):∀b,X b→H' b≠none:=fun b hb e=>by
 cases q:H b with
 |none=>exact h.x b hb q
 |some o =>
  rw[k b o q fun z=>na (z▸hb)]at e
  cases e
theorem RX.fresh(h:RX T X H A s)(e:H b=none):¬X b:=fun q=>h.x b q e
theorem RX.kpX(h:RX T X H A s)(ha:X a)(k:Kp a H H')(e:H' a≠none):RX T X H' A s:=by
 refine⟨h.r.up fun b o q=>?_,fun b hb z=>?_⟩
 ·obtain⟨n,q⟩:=bM q
  rw[cu n]
  exact k _ _ q fun w=>n (w▸ha)
 ·by_cases w:b=a
  ·rw[w]at z;exact e z
  ·cases q:H b with
   |none=>exact h.x b hb q
   |some o=>rw[k b o q w]at z;cases z
theorem RX.more(h:RX T X H A s){l:Addr}(h0:H l=none){H1:Hp}(s1:aY H H1)(e:H1 l≠none):RX T (fun b=>X b∨b=l) H1 A s:=by
 refine⟨h.r.up fun b o q=>?_,fun b hb z=>?_⟩
 ·obtain⟨n,q⟩:=bM q
  rw[cu (X:=fun b=>X b∨b=l) (by rintro(w | w);exact n w;rw[w,h0]at q;cases q)]
  exact s1 _ _ q
 ·rcases hb with hb | hb
  ·exact h.x b hb (s1.free z)
  ·rw[hb]at z;exact e z
theorem RX.less{Y:Addr→Prop}(h:RX T X H A s)(q:∀b,Y b→X b):RX T Y H A s:=by
 refine⟨h.r.up fun b o e=>?_,fun b hb=>h.x b (q b hb)⟩
 obtain⟨n,e⟩:=bM e
 rw[cu fun z=>n (q b z)]
 exact e
end
end Jq
end
section
set_option Elab.async false
set_option linter.all false
set_option maxRecDepth 100000
set_option maxHeartbeats 1000000
namespace Jq
open PySem PySem.Spec PyProof.Rows L2
theorem dR(n lo hi:Int):Vbbhaj.inside n lo hi=(decide (lo≤n)&&decide (n≤hi)):=by
 unfold Vbbhaj.inside
 rw[Bool.eq_iff_iff]
 simp
section
variable {P:Program}{w:World}{K:PySem.W.Frag}{mg:Str→Option Value}{base:Heap}
abbrev GT:=List V→Hp→(V→Hp→Prop)→Prop
def gI(f:Int→Bool):GT:=fun vs _ R=>∃n,vs=[.int n]∧R=fun v _=>v=.bl (f n)
variable {σ:St}{H:Hp}{ta tb tc td:TE}{a:Addr}{j:Vbbhaj.Job}
theorem iV{f:Int→Bool}{n:Int}(ha:Ev ta σ H (.int n)):Ev (fG (ro (gI f)) [] E0 (bw ta eV)) σ H (.bl (f n)):=nH (aB ha aV) fun H1 s=>⟨n,rfl,rfl⟩
theorem XC(T:Txt K mg):bG P w K mg base CX0 1 T.xM.f T.xM.fd ["n"] (ro (gI fun n=>Vbbhaj.inside n 1 500)):=by
 refine cO T.xM.F Xi (fun vs H R ⟨n,e,_⟩=>by rw[e];rfl) fun cdv A outer s H E hr=>⟨_,(az (aC (iu eX eX aH (pv 0) aH))),?_⟩
 rintro vs R ⟨n,rfl,rfl⟩
 exact aU ((gk aJ (aa rfl) aJ).cast (congrArg V.bl (dR _ _ _).symm))
theorem abh(T:Txt K mg):bG P w K mg base CX0 1 T.FJ.f T.FJ.fd ["n"] (ro (gI fun n=>Vbbhaj.inside n 1 1000)):=by
 refine cO T.FJ.F abv (fun vs H R ⟨n,e,_⟩=>by rw[e];rfl) fun cdv A outer s H E hr=>⟨_,(az (aC (iu eX eX aH (pv 0) aH))),?_⟩
 rintro vs R ⟨n,rfl,rfl⟩
 exact aU ((gk aJ (aa rfl) aJ).cast (congrArg V.bl (dR _ _ _).symm))
theorem abB(T:Txt K mg):bG P w K mg base CX0 1 T.Gn.f T.Gn.fd ["n"] (ro (gI fun n=>Vbbhaj.inside n 1 1000000)):=by
 refine cO T.Gn.F ab1 (fun vs H R ⟨n,e,_⟩=>by rw[e];rfl) fun cdv A outer s H E hr=>⟨_,(az (aC (iu eX eX aH (pv 0) aH))),?_⟩
 rintro vs R ⟨n,rfl,rfl⟩
 exact aU ((gk aJ (aa rfl) aJ).cast (congrArg V.bl (dR _ _ _).symm))
theorem xq(T:Txt K mg):bG P w K mg base CX0 1 T.gf.f T.gf.fd ["n"] (ro (gI fun n=>Vbbhaj.inside n 1 999999)):=by
 refine cO T.gf.F Gv (fun vs H R ⟨n,e,_⟩=>by rw[e];rfl) fun cdv A outer s H E hr=>⟨_,(az (aC (iu eX eX aH (pv 0) (bz T.xU rfl)))),?_⟩
 rintro vs R ⟨n,rfl,rfl⟩
 exact aU ((gk aJ (aa rfl) aJ).cast (congrArg V.bl (dR _ _ _).symm))
theorem lK(T:Txt K mg):bG P w K mg base CX0 1 T.fW.f T.fW.fd ["n"] (ro (gI fun n=>Vbbhaj.inside n 1 36)):=by
 refine cO T.fW.F R7 (fun vs H R ⟨n,e,_⟩=>by rw[e];rfl) fun cdv A outer s H E hr=>⟨_,(az (aC (iu eX eX aH (pv 0) (bz T.ue rfl)))),?_⟩
 rintro vs R ⟨n,rfl,rfl⟩
 exact aU ((gk aJ (aa rfl) aJ).cast (congrArg V.bl (dR _ _ _).symm))
theorem Af(T:Txt K mg):bG P w K mg base CX0 1 T.iD.f T.iD.fd ["n"] (ro (gI fun n=>Vbbhaj.inside n 0 15)):=by
 refine cO T.iD.F KQ (fun vs H R ⟨n,e,_⟩=>by rw[e];rfl) fun cdv A outer s H E hr=>⟨_,(az (aC (iu eX eX aH (pv 0) aH))),?_⟩
 rintro vs R ⟨n,rfl,rfl⟩
 exact aU ((gk aJ (aa rfl) aJ).cast (congrArg V.bl (dR _ _ _).symm))
theorem yM(T:Txt K mg):bG P w K mg base CX0 1 T.gH.f T.gH.fd ["n"] (ro (gI fun n=>Vbbhaj.inside n 0 1)):=by
 refine cO T.gH.F HY (fun vs H R ⟨n,e,_⟩=>by rw[e];rfl) fun cdv A outer s H E hr=>⟨_,(az (aC (iu eX eX aH (pv 0) aH))),?_⟩
 rintro vs R ⟨n,rfl,rfl⟩
 exact aU ((gk aJ (aa rfl) aJ).cast (congrArg V.bl (dR _ _ _).symm))
theorem Kz(T:Txt K mg):bG P w K mg base CX0 1 T.qY.f T.qY.fd ["n"] (ro (gI fun n=>Vbbhaj.inside n 0 4095)):=by
 refine cO T.qY.F Vd (fun vs H R ⟨n,e,_⟩=>by rw[e];rfl) fun cdv A outer s H E hr=>⟨_,(az (aC (iu eX eX aH (pv 0) aH))),?_⟩
 rintro vs R ⟨n,rfl,rfl⟩
 exact aU ((gk aJ (aa rfl) aJ).cast (congrArg V.bl (dR _ _ _).symm))
theorem Tr(T:Txt K mg):bG P w K mg base CX0 1 T.rH.f T.rH.fd ["n"] (ro (gI fun n=>Vbbhaj.inside n 1 1000000)):=by
 refine cO T.rH.F Ri (fun vs H R ⟨n,e,_⟩=>by rw[e];rfl) fun cdv A outer s H E hr=>⟨_,(az (aC (iu eX eX aH (pv 0) aH))),?_⟩
 rintro vs R ⟨n,rfl,rfl⟩
 exact aU ((gk aJ (aa rfl) aJ).cast (congrArg V.bl (dR _ _ _).symm))
theorem RG(T:Txt K mg):bG P w K mg base CX0 1 T.rD.f T.rD.fd ["n"] (ro (gI fun n=>Vbbhaj.inside n 0 16)):=by
 refine cO T.rD.F R8 (fun vs H R ⟨n,e,_⟩=>by rw[e];rfl) fun cdv A outer s H E hr=>⟨_,(az (aC (iu eX eX aH (pv 0) aH))),?_⟩
 rintro vs R ⟨n,rfl,rfl⟩
 exact aU ((gk aJ (aa rfl) aJ).cast (congrArg V.bl (dR _ _ _).symm))
theorem n_(T:Txt K mg):bG P w K mg base CX0 1 T.eE.f T.eE.fd ["n"] (ro (gI fun n=>Vbbhaj.inside n 1 16)):=by
 refine cO T.eE.F Ig (fun vs H R ⟨n,e,_⟩=>by rw[e];rfl) fun cdv A outer s H E hr=>⟨_,(az (aC (iu eX eX aH (pv 0) (bz T.lX rfl)))),?_⟩
 rintro vs R ⟨n,rfl,rfl⟩
 exact aU ((gk aJ (aa rfl) aJ).cast (congrArg V.bl (dR _ _ _).symm))
theorem Ex(T:Txt K mg):bG P w K mg base CX0 1 T.kO.f T.kO.fd ["byte"] (ro (gI fun n=>Vbbhaj.inside n 65 90)):=by
 refine cO T.kO.F Pg (fun vs H R ⟨n,e,_⟩=>by rw[e];rfl) fun cdv A outer s H E hr=>⟨_,(az (aC (iu eX eX aH (pv 0) aH))),?_⟩
 rintro vs R ⟨n,rfl,rfl⟩
 exact aU ((gk aJ (aa rfl) aJ).cast (congrArg V.bl (dR _ _ _).symm))
theorem TQ(T:Txt K mg):bG P w K mg base CX0 1 T.rK.f T.rK.fd ["byte"] (ro (gI fun n=>Vbbhaj.inside n 48 57)):=by
 refine cO T.rK.F S_ (fun vs H R ⟨n,e,_⟩=>by rw[e];rfl) fun cdv A outer s H E hr=>⟨_,(az (aC (iu eX eX aH (pv 0) aH))),?_⟩
 rintro vs R ⟨n,rfl,rfl⟩
 exact aU ((gk aJ (aa rfl) aJ).cast (congrArg V.bl (dR _ _ _).symm))
def KZ:GT:=fun vs H R=>∃l xs,vs=[.ref l]∧H l=some (.lst xs)∧xs.length<sizeLine∧R=IsL (.int xs.length::xs)
theorem fV(T:Txt K mg):bG P w K mg base CX0 1 T.dJ.f T.dJ.fd ["row"] (ro KZ):=by
 refine cO T.dJ.F VP (fun vs H R ⟨n,_,e,_⟩=>by rw[e];rfl) fun cdv A outer s H E hr=>⟨_,(az (aC (jm qx (bc (aj (bR bC rfl T.iT gh (aj (pv 0) aq)) aq)) (pv 0)))),?_⟩
 rintro vs R ⟨l,xs,rfl,h,hz,rfl⟩
 have hv:EvL (b8 0) (start ["row"] [V.ref l]) H xs:=(aa rfl).toL h
 exact aU (mC (xY (aB (zR hv) aV) (by show 1≤sizeLine;decide)) hv (by show 1+xs.length≤sizeLine;omega))
theorem gJ{xs:List V}(ha:EvL ta σ H xs)(hz:xs.length<sizeLine):EvL (fG (ro KZ) [] E0 (bw ta eV)) σ H (.int xs.length::xs) :=
 O1 (acZ ha Wq aV) fun vs H1 s ⟨v,e,l,e2,q⟩=>⟨l,xs,by rw[e,e2],q,hz,rfl⟩
theorem gA{T:Txt K mg}(ha:Ev ta σ H (.ref a))(h:cT T H a j):Ev (j4 K ta "number") σ H (.int j.num):=let ⟨dx,na,tt,e,_⟩:=h;b_ ha e T.bQ T.ud (JV.Zq _)
theorem nu{T:Txt K mg}(ha:Ev ta σ H (.ref a))(h:cT T H a j):Ev (j4 K ta "class_of") σ H (.int j.cls):=let ⟨dx,na,tt,e,_⟩:=h;b_ ha e T.bQ T.lH (JV.Ur _)
theorem Ca{T:Txt K mg}(ha:Ev ta σ H (.ref a))(h:cT T H a j):Ev (j4 K ta "priority") σ H (.int j.prio):=let ⟨dx,na,tt,e,_⟩:=h;b_ ha e T.bQ T.lB (JV.Uh _)
theorem Fz{T:Txt K mg}(ha:Ev ta σ H (.ref a))(h:cT T H a j):Ev (j4 K ta "held") σ H (.bl j.held):=let ⟨dx,na,tt,e,_⟩:=h;b_ ha e T.bQ T.oZ (JV.ac1 _)
theorem jL{T:Txt K mg}(ha:Ev ta σ H (.ref a))(h:cT T H a j):Ev (j4 K ta "state") σ H (.int (yN j.status)):=let ⟨dx,na,tt,e,_⟩:=h;b_ ha e T.bQ T.lU (JV.abO _)
theorem Ng{T:Txt K mg}(ha:Ev ta σ H (.ref a))(h:cT T H a j):Ev (j4 K ta "code") σ H (.int (JL j.status)):=let ⟨dx,na,tt,e,_⟩:=h;b_ ha e T.bQ T.uR (JV.acS _)
theorem Hh{T:Txt K mg}(ha:Ev ta σ H (.ref a))(h:cT T H a j):Ev (j4 K ta "waited") σ H (.int j.waited):=let ⟨dx,na,tt,e,_⟩:=h;b_ ha e T.bQ T.qg (JV.Q9 _)
theorem wX{T:Txt K mg}(ha:Ev ta σ H (.ref a))(h:cT T H a j):Ev (j4 K ta "passed_over") σ H (.int j.passed):=let ⟨dx,na,tt,e,_⟩:=h;b_ ha e T.bQ T.eG (JV.BK _)
theorem nM{T:Txt K mg}(ha:Ev ta σ H (.ref a))(h:cT T H a j):Ev (j4 K ta "due_turn") σ H (.int j.due):=let ⟨dx,na,tt,e,_⟩:=h;b_ ha e T.bQ T.gP (JV.Ul _)
theorem Yv{T:Txt K mg}(ha:Ev ta σ H (.ref a))(h:cT T H a j):EvL (j4 K ta "name") σ H (j.name.map fun c=>V.int c.toNat):=let ⟨dx,na,tt,e,n,_⟩:=h;(b_ ha e T.bQ T.uI (JV.Uj _)).toL n
theorem Kc{T:Txt K mg}(ha:Ev ta σ H (.ref a))(h:cT T H a j):∃l,Ev (j4 K ta "tests") σ H (.ref l)∧pX H l j.tests:=let ⟨dx,na,tt,e,n,t⟩:=h;⟨tt,b_ ha e T.bQ T.ir (JV.Ir _),t⟩
variable {x:Vbbhaj.Init}{A:Ad}{s:Vbbhaj.State}
theorem Il{T:Txt K mg}(ha:Ev ta σ H (.ref a))(h:nT T H a x):Ev (j4 K ta "on") σ H (.bl x.on):=let ⟨dx,ca,e,_⟩:=h;b_ ha e T.bB T.jg (IV.aeh _)
theorem Cj{T:Txt K mg}(ha:Ev ta σ H (.ref a))(h:nT T H a x):Ev (j4 K ta "draining") σ H (.bl x.draining):=let ⟨dx,ca,e,_⟩:=h;b_ ha e T.bB T.cF (IV.JD _)
theorem lW{T:Txt K mg}(ha:Ev ta σ H (.ref a))(h:nT T H a x):Ev (j4 K ta "runs") σ H (.int x.job):=let ⟨dx,ca,e,_⟩:=h;b_ ha e T.bB T.fj (IV.adq _)
theorem ym{T:Txt K mg}(ha:Ev ta σ H (.ref a))(h:nT T H a x):EvL (j4 K ta "classes") σ H (x.classes.map fun c:Nat=>V.int c):=let ⟨dx,ca,e,n⟩:=h;(b_ ha e T.bB T.dq (IV.Yc _)).toL n
theorem Z4{T:Txt K mg}(ha:Ev ta σ H (.ref A.b))(h:Rep T H A s):Ev (j4 K ta "cap") σ H (.int s.cap):=let ⟨dx,e⟩:=h.brd;b_ ha e T.bN T.vD (BV.ad1 _)
theorem acY{T:Txt K mg}(ha:Ev ta σ H (.ref A.b))(h:Rep T H A s):Ev (j4 K ta "k") σ H (.int s.passes):=let ⟨dx,e⟩:=h.brd;b_ ha e T.bN T.Bo (BV.l_k _)
theorem adf{T:Txt K mg}(ha:Ev ta σ H (.ref A.b))(h:Rep T H A s):Ev (j4 K ta "a") σ H (.int s.aging):=let ⟨dx,e⟩:=h.brd;b_ ha e T.bN T.uw (BV.l_a _)
theorem Oe{T:Txt K mg}(ha:Ev ta σ H (.ref A.b))(h:Rep T H A s):Ev (j4 K ta "time") σ H (.int s.now):=let ⟨dx,e⟩:=h.brd;b_ ha e T.bN T.pZ (BV.aaX _)
theorem cA{T:Txt K mg}(ha:Ev ta σ H (.ref A.b))(h:Rep T H A s):Ev (j4 K ta "jobs") σ H (.ref A.dj):=let ⟨dx,e⟩:=h.brd;b_ ha e T.bN T.um (BV.acV _)
theorem xu{T:Txt K mg}(ha:Ev ta σ H (.ref A.b))(h:Rep T H A s):Ev (j4 K ta "last_number") σ H (.int ((s.next:Int) - 1)):=let ⟨dx,e⟩:=h.brd;b_ ha e T.bN T.gm (BV.M4 _)
theorem CW{T:Txt K mg}(ha:Ev ta σ H (.ref A.b))(h:Rep T H A s):Ev (j4 K ta "last_due_turn") σ H (.int ((s.stamp:Int) - 1)):=let ⟨dx,e⟩:=h.brd;b_ ha e T.bN T.fc (BV.yJ _)
theorem Ac{T:Txt K mg}(ha:Ev ta σ H (.ref A.b))(h:Rep T H A s):Ev (j4 K ta "limits") σ H (.ref A.dl):=let ⟨dx,e⟩:=h.brd;b_ ha e T.bN T.lJ (BV.aaw _)
theorem vJ{T:Txt K mg}(ha:Ev ta σ H (.ref A.b))(h:Rep T H A s):Ev (j4 K ta "closed") σ H (.ref A.dc):=let ⟨dx,e⟩:=h.brd;b_ ha e T.bN T.kJ (BV.aaG _)
theorem bU{T:Txt K mg}(ha:Ev ta σ H (.ref A.b))(h:Rep T H A s):Ev (j4 K ta "initiators") σ H (.ref A.di):=let ⟨dx,e⟩:=h.brd;b_ ha e T.bN T.gM (BV.QR _)
end
end Jq
end
section
set_option Elab.async false
set_option linter.all false
set_option maxRecDepth 100000
set_option maxHeartbeats 1000000
namespace Jq
open PySem PySem.Spec PyProof.Rows L2
section
variable {P:Program}{w:World}{K:PySem.W.Frag}{mg:Str→Option Value}{base:Heap}
variable {σ:St}{H:Hp}{ta tb tc td:TE}{a:Addr}{j:Vbbhaj.Job}{A:Ad}{s:Vbbhaj.State}{T:Txt K mg}
def YX(T:Txt K mg)(f:Vbbhaj.Job→V):GT:=fun vs H R=>∃a j,vs=[.ref a]∧cT T H a j∧R=fun v _=>v=f j
theorem nW{f:Vbbhaj.Job→V}(ha:Ev ta σ H (.ref a))(h:cT T H a j):Ev (fG (ro (YX T f)) [] E0 (bw ta eV)) σ H (f j):=nH (aB ha aV) fun H1 s=>⟨a,j,rfl,h.up s,rfl⟩
theorem ZD(j:Vbbhaj.Job):(!decide (yN j.status=0)&&!decide (yN j.status=1))=(endOf j).isSome:=by
 unfold endOf
 cases e:j.status with
 |waiting=>rfl
 |running=>rfl
 |ended z=>cases z<;>rfl
theorem yf(T:Txt K mg):bG P w K mg base CX0 1 T.jo.f T.jo.fd ["job"] (ro (YX T fun j=>.bl (endOf j).isSome)):=by
 refine cO T.jo.F Ow (fun vs H R ⟨_,_,e,_⟩=>by rw[e];rfl) fun cdv A outer s H E hr=>⟨_,(az (aC (vU (fK jr (aD (K:=K) (pv 0) rfl) (bz T.mK rfl) (aQ _)) (wj (fK jr (aD (K:=K) (pv 0) rfl) (bz T.nQ rfl) (aQ _)))))),?_⟩
 rintro vs R ⟨a,j,rfl,h,rfl⟩
 have hv:Ev (b8 0) (start ["job"] [V.ref a]) H (.ref a):=aa rfl
 exact aU ((vN (fM (jL hv h) aJ) fun _=>fM (jL hv h) aJ).cast (by rw[ZD]))
theorem YD{H:Hp}{l:Addr}{ts:List Vbbhaj.Test}(h:pX H l ts):∃xs,H l=some (.lst xs)∧xs.length=ts.length:=by
 obtain⟨ps,e,l',e',h1,_⟩:=h
 have e':l=l':=by injection e'
 subst e'
 refine⟨_,h1,?_⟩
 have:=congrArg List.length e
 rw[List.length_map,List.length_map]at this
 rw[List.length_map,this]
theorem Y0(j:Vbbhaj.Job):(decide (yN j.status=0)&&(!j.held&&decide ((j.tests.length:Int)=0)))=Vbbhaj.ready j:=by
 unfold Vbbhaj.ready Vbbhaj.isWaiting
 have e1:decide (yN j.status=0)=(j.status==.waiting):=by
  cases e:j.status with
  |waiting=>rfl
  |running=>rfl
  |ended z=>cases z<;>rfl
 have e2:decide ((j.tests.length:Int)=0)=j.tests.isEmpty:=by
  cases j.tests with
  |nil=>rfl
  |cons t r=>simp;omega
 rw[e1,e2]
theorem Ah(T:Txt K mg):bG P w K mg base CX0 1 T.lD.f T.lD.fd ["job"] (ro (YX T fun j=>.bl (Vbbhaj.ready j))):=by
 refine cO T.lD.F Sd (fun vs H R ⟨_,_,e,_⟩=>by rw[e];rfl) fun cdv A outer s H E hr=>⟨_,(az (aC (vU (fK dm (aD (K:=K) (pv 0) rfl) (bz T.mK rfl) (aQ _)) (vU (Zb (aD (K:=K) (pv 0) rfl)) (wj (fK dm (bR bC rfl T.iT gh (aj (aD (K:=K) (pv 0) rfl) aq)) aH (aQ _))))))),?_⟩
 rintro vs R ⟨a,j,rfl,h,rfl⟩
 have hv:Ev (b8 0) (start ["job"] [V.ref a]) H (.ref a):=aa rfl
 obtain⟨l,hl,ht⟩:=Kc hv h
 obtain⟨xs,hx,hlen⟩:=YD ht
 exact aU ((vN (bY (jL hv h) aJ) fun _=>vN (aar (Fz hv h)) fun _=>bY (zR (hl.toL hx)) aJ).cast (by rw[hlen,Y0]))
theorem uB(T:Txt K mg):bG P w K mg base CX0 1 T.lN.f T.lN.fd ["job"] (ro (YX T fun j=>.bl (decide (j.due≠0)))):=by
 refine cO T.lN.F Xk (fun vs H R ⟨_,_,e,_⟩=>by rw[e];rfl) fun cdv A outer s H E hr=>⟨_,(az (aC (fK jr (aD (K:=K) (pv 0) rfl) aH (aQ _)))),?_⟩
 rintro vs R ⟨a,j,rfl,h,rfl⟩
 exact aU ((fM (nM (aa rfl) h) aJ).cast (by congr 1;rw[Bool.eq_iff_iff];simp))
def rk(n:Int)(j:Vbbhaj.Job):Int:=if (15:Int)<(j.prio:Int)+(j.waited:Int) / n then 15 else (j.prio:Int)+(j.waited:Int) / n
theorem Px(s:Vbbhaj.State)(j:Vbbhaj.Job):rk s.aging j=(Vbbhaj.rank s j:Int):=by
 unfold rk Vbbhaj.rank
 have e:((j.waited:Int) / (s.aging:Int))=((j.waited / s.aging:Nat):Int):=by simp
 rw[e]
 generalize j.waited / s.aging=q
 split<;>omega
def acn(T:Txt K mg):GT:=fun vs H R=>∃a j n,vs=[.ref a,.int n]∧cT T H a j∧(1≤n∧n≤1000000)∧R=fun v _=>v=.int (rk n j)
theorem CG(T:Txt K mg):bG P w K mg base CX0 1 T.ph.f T.ph.fd ["job","a"] (ro (acn T)):=by
 refine cO T.ph.F Uv (fun vs H R ⟨_,_,_,e,_⟩=>by rw[e];rfl) fun cdv A outer s H E hr=>⟨_,(az (aC (bR (Yx rfl) rfl T.SQ V9 (aj (jm zc (aD (K:=K) (pv 0) rfl) (jm QT (aD (K:=K) (pv 0) rfl) (pv 1))) (aj (bz T.tU rfl) aq))))),?_⟩
 rintro vs R ⟨a,j,n,rfl,h,hn,rfl⟩
 have hv:Ev (b8 0) (start ["job","a"] [V.ref a,.int n]) H (.ref a):=aa rfl
 exact aU (abU (eY (Ca hv h) (Io (Hh hv h) (aa rfl) ⟨by omega,by omega⟩)) aJ)
theorem CT{n:Int}(ha:Ev ta σ H (.ref a))(h:cT T H a j)(hb:Ev tb σ H (.int n))(hn:1≤n∧n≤1000000):Ev (fG (ro (acn T)) [] E0 (bw ta (bw tb eV))) σ H (.int (rk n j)) :=
 nH (aB ha (aB hb aV)) fun H1 s=>⟨a,j,n,rfl,h.up s,hn,rfl⟩
def zU(k n st c:Int):Bool:=if decide (k=0)=true then true else if decide (k=1)=true then (decide (st=2)&&decide (c≤n))else if decide (k=2)=true then (decide (st=3)||(decide (st=2)&&decide (n<c)))else (decide (k=3)&&decide (st=3))
def ad4:GT:=fun vs H R=>∃k n st c,vs=[.int k,.int n,.int st,.int c]∧R=fun v _=>v=.bl (zU k n st c)
theorem Ys(T:Txt K mg):bG P w K mg base CX0 1 T.wY.f T.wY.fd ["kind","n","state","code"] (ro ad4):=by
 refine cO T.wY.F Yr (fun vs H R ⟨_,_,_,_,e,_⟩=>by rw[e];rfl) fun cdv A outer s H E hr=>⟨_,(ak (a_ (aR dm (pv 0) (bz T.sY rfl) (aQ _)) (az (aC kI)) aL)
   (ak (a_ (aR dm (pv 0) (bz T.lO rfl) (aQ _)) (az (aC (vU (fK dm (pv 2) (bz T.h_ rfl) (aQ _)) (wj (fK eX (pv 3) (pv 1) (aQ _)))))) aL)
   (ak (a_ (aR dm (pv 0) (bz T.gn rfl) (aQ _)) (az (aC (ab4 (fK dm (pv 2) (bz T.jj rfl) (aQ _)) (wj (vU (fK dm (pv 2) (bz T.h_ rfl) (aQ _)) (wj (fK aaD (pv 3) (pv 1) (aQ _)))))))) aL)
   (az (aC (vU (fK dm (pv 0) (bz T.vR rfl) (aQ _)) (wj (fK dm (pv 2) (bz T.jj rfl) (aQ _))))))))),?_⟩
 rintro vs R ⟨k,n,st,c,rfl,rfl⟩
 have e0:Ev (b8 0) (start ["kind","n","state","code"] [V.int k,.int n,.int st,.int c]) H (.int k):=aa rfl
 have e1:Ev (b8 1) (start ["kind","n","state","code"] [V.int k,.int n,.int st,.int c]) H (.int n):=aa rfl
 have e2:Ev (b8 2) (start ["kind","n","state","code"] [V.int k,.int n,.int st,.int c]) H (.int st):=aa rfl
 have e3:Ev (b8 3) (start ["kind","n","state","code"] [V.int k,.int n,.int st,.int c]) H (.int c):=aa rfl
 refine d7 (aP (bY e0 aJ)) (fun h=>aU (aJ.cast (by unfold zU;rw[if_pos h]))) fun h0=>?_
 refine d7 (aP (bY e0 aJ)) (fun h=>aU ((vN (bY e2 aJ) fun _=>eY e3 e1).cast (by unfold zU;rw[h0,if_neg Bool.false_ne_true,if_pos h]))) fun h1=>?_
 refine d7 (aP (bY e0 aJ)) (fun h=>aU ((aco (bY e2 aJ) fun _=>vN (bY e2 aJ) fun _=>eY e3 e1).cast (by unfold zU;rw[h0,if_neg Bool.false_ne_true,h1,if_neg Bool.false_ne_true,if_pos h]))) fun h2=>?_
 exact aU ((vN (bY e0 aJ) fun _=>bY e2 aJ).cast (by unfold zU;rw[h0,if_neg Bool.false_ne_true,h1,if_neg Bool.false_ne_true,h2,if_neg Bool.false_ne_true]))
theorem UW(j:Vbbhaj.Job):decide (yN j.status=1)=Vbbhaj.isRunning j:=by
 unfold Vbbhaj.isRunning
 cases e:j.status with
 |waiting=>rfl
 |running=>rfl
 |ended z=>cases z<;>rfl
theorem Dy(j:Vbbhaj.Job):decide (yN j.status=0)=Vbbhaj.isWaiting j:=by
 unfold Vbbhaj.isWaiting
 cases e:j.status with
 |waiting=>rfl
 |running=>rfl
 |ended z=>cases z<;>rfl
def refs(L:List (Addr×Vbbhaj.Job)):List V:=L.map fun p=>V.ref p.1
theorem Ge(L:List (Addr×Vbbhaj.Job)):(rC L).map (·.1)=(L.map fun p=>(p.2.num:Int)).map (Sum.inl:Int→Key):=by
 unfold rC
 rw[List.map_map,List.map_map]
 rfl
theorem N8{L:List (Addr×Vbbhaj.Job)}(h:cW (L.map (·.2))):(L.map fun p=>(p.2.num:Int)).Pairwise (·<·):=by
 have h:=(List.pairwise_map.mp h)
 exact List.pairwise_map.mpr (h.imp fun x=>by omega)
theorem Rep.Mg(h:Rep T H A s):cW (A.L.map (·.2)):=by rw[h.js];exact h.srt
theorem Rep.PN(h:Rep T H A s):A.L.length≤500:=by have:=h.few;rw[← h.js,List.length_map]at this;exact this
theorem eZ{n:Nat}(h:n≤500):n≤sizeLine:=Nat.le_trans h (by decide)
def X8(T:Txt K mg)(p:Vbbhaj.Job→Bool):GT:=fun vs H R=>∃A s,vs=[.ref A.b]∧Rep T H A s∧R=IsL (refs (A.L.filter fun q=>p q.2))
theorem uh{p:Vbbhaj.Job→Bool}(ha:Ev ta σ H (.ref A.b))(h:Rep T H A s):EvL (fG (ro (X8 T p)) [] E0 (bw ta eV)) σ H (refs (A.L.filter fun q=>p q.2)) :=
 nH (aB ha aV) fun H1 s1=>⟨A,s,rfl,h.up s1,rfl⟩
theorem pB(T:Txt K mg):bG P w K mg base CX0 1 T.gG.f T.gG.fd ["board"] (ro (X8 T fun _=>true)):=by
 refine cO T.gG.F za (fun vs H R ⟨_,_,e,_⟩=>by rw[e];rfl) fun cdv A outer s H E hr=>?_
 have hu:=eF hr
 refine⟨_,(az (aC (t7 (own:=[("number",1)]) rfl za.nd (cY (bR (xV rfl) rfl T.uX xj (aj (aD (K:=K) (pv 0) rfl) aq))) (cH (by show qF ["board","number"] (aA vG) _ _=true;decide +kernel)) (fun _ _ _ _ _=>(bL (i:=1) za.nd rfl (Or.inl rfl))) (fun _ _ _ _ _=>yh) (fun _ _ _ _ _=>(cM (by exact hu) (aD (K:=K) (pv 0) rfl) (pv 1) (fun _ _=>rfl)))))),?_⟩
 rintro vs R ⟨A,s,rfl,h,rfl⟩
 exact aU (jZ (K:=K) (k:=1) (ys:=A.L) (fun p=>V.int p.2.num) (fun _=>true) (fun p=>V.ref p.1) ((TJ (ta:=j4 K (b8 0) "jobs") (cA (aa rfl) h) h.jobs (Ge _) (N8 h.Mg)).cast (by rw[List.map_map];rfl))
  (eZ h.PN) (fun y hy=>PQ) (fun y hy _=>fH (cA (aa rfl) h) (aa rfl) h.jobs (zg h.Mg hy)))
theorem filter_true'(L:List (Addr×Vbbhaj.Job)):(L.filter fun _=>true)=L:=by simp
theorem Hd(ha:Ev ta σ H (.ref A.b))(h:Rep T H A s):EvL (fG (ro (X8 T fun _=>true)) [] E0 (bw ta eV)) σ H (refs A.L):=(uh ha h).cast (by rw[filter_true'])
theorem nU(T:Txt K mg):bG P w K mg base CX0 2 T.dW.f T.dW.fd ["board"] (ro (X8 T Vbbhaj.isRunning)):=by
 refine cO T.dW.F tO (fun vs H R ⟨_,_,e,_⟩=>by rw[e];rfl) fun cdv A outer s H E hr=>?_
 refine⟨_,(az (aC (t7 (own:=[("job",1)]) rfl tO.nd (cY (aK T.gG (pB T) (by exact hr.mono (by decide)) rfl (aj (pv 0) aq))) (cH (by show qF ["board","job"] (aA nY) _ _=true;decide +kernel)) (fun _ _ _ _ _=>(bL (i:=1) tO.nd rfl (Or.inl rfl))) (fun _ _ _ _ _=>(jD (aR dm (aD (K:=K) (pv 1) rfl) (bz T.nQ rfl) (aQ _)))) (fun _ _ _ _ _=>(pv 1))))),?_⟩
 rintro vs R ⟨A,s,rfl,h,rfl⟩
 refine aU (jZ (K:=K) (k:=1) (ys:=A.L) (fun p=>V.ref p.1) (fun p=>Vbbhaj.isRunning p.2) (fun p=>V.ref p.1) (Hd (aa rfl) h) (eZ h.PN) (fun y hy=>aP ((bY (jL (aa rfl) (h.job y hy)) aJ).cast ?_)) (fun y hy _=>aa rfl))
 rw[UW]
theorem yK(T:Txt K mg):bG P w K mg base CX0 2 T.gO.f T.gO.fd ["board"] (ro (X8 T Vbbhaj.isWaiting)):=by
 refine cO T.gO.F tH (fun vs H R ⟨_,_,e,_⟩=>by rw[e];rfl) fun cdv A outer s H E hr=>?_
 refine⟨_,(az (aC (t7 (own:=[("job",1)]) rfl tH.nd (cY (aK T.gG (pB T) (by exact hr.mono (by decide)) rfl (aj (pv 0) aq))) (cH (by show qF ["board","job"] (aA nZ) _ _=true;decide +kernel)) (fun _ _ _ _ _=>(bL (i:=1) tH.nd rfl (Or.inl rfl))) (fun _ _ _ _ _=>(jD (aR dm (aD (K:=K) (pv 1) rfl) (bz T.mK rfl) (aQ _)))) (fun _ _ _ _ _=>(pv 1))))),?_⟩
 rintro vs R ⟨A,s,rfl,h,rfl⟩
 refine aU (jZ (K:=K) (k:=1) (ys:=A.L) (fun p=>V.ref p.1) (fun p=>Vbbhaj.isWaiting p.2) (fun p=>V.ref p.1) (Hd (aa rfl) h) (eZ h.PN) (fun y hy=>aP ((bY (jL (aa rfl) (h.job y hy)) aJ).cast ?_)) (fun y hy _=>aa rfl))
 rw[Dy]
theorem BJ(T:Txt K mg):bG P w K mg base CX0 2 T.jx.f T.jx.fd ["board"] (ro (X8 T Vbbhaj.ready)):=by
 refine cO T.jx.F vP (fun vs H R ⟨_,_,e,_⟩=>by rw[e];rfl) fun cdv A outer s H E hr=>?_
 refine⟨_,(az (aC (t7 (own:=[("job",1)]) rfl vP.nd (cY (aK T.gG (pB T) (by exact hr.mono (by decide)) rfl (aj (pv 0) aq))) (cH (by show qF ["board","job"] (aA rY) _ _=true;decide +kernel)) (fun _ _ _ _ _=>(bL (i:=1) vP.nd rfl (Or.inl rfl))) (fun _ _ _ _ _=>(jD (bJ (aK T.lD (Ah T) (by exact hr.mono (by decide)) rfl (aj (pv 1) aq))))) (fun _ _ _ _ _=>(pv 1))))),?_⟩
 rintro vs R ⟨A,s,rfl,h,rfl⟩
 exact aU (jZ (K:=K) (k:=1) (ys:=A.L) (fun p=>V.ref p.1) (fun p=>Vbbhaj.ready p.2) (fun p=>V.ref p.1) (Hd (aa rfl) h) (eZ h.PN) (fun y hy=>fu (nW (aa rfl) (h.job y hy))) (fun y hy _=>aa rfl))
def DK(T:Txt K mg)(H:Hp)(L:List (Addr×Vbbhaj.Job)):Prop:=∀p∈L,cT T H p.1 p.2
theorem DK.up{L:List (Addr×Vbbhaj.Job)}{H':Hp}(h:DK T H L)(s:aY H H'):DK T H' L:=fun p hp=>(h p hp).up s
def aa6(T:Txt K mg):GT:=fun vs H R=>∃l L c,vs=[.ref l,.int c]∧H l=some (.lst (refs L))∧DK T H L∧L.length≤500∧R=fun v _=>v=.int ((L.filter fun p=>decide ((p.2.cls:Int)=c)).length:Nat)
theorem ie(T:Txt K mg):bG P w K mg base CX0 1 T.cz.f T.cz.fd ["jobs","class_of"] (ro (aa6 T)):=by
 refine cO T.cz.F lQ (fun vs H R ⟨_,_,_,e,_⟩=>by rw[e];rfl) fun cdv A outer s H E hr=>?_
 refine⟨_,(az (aC (bR bC rfl T.iT gh (aj (t7 (own:=[("job",2)]) rfl lQ.nd (cY (pv 0)) (cH (by show qF ["jobs","class_of","job"] (aA ik) _ _=true;decide +kernel)) (fun _ _ _ _ _=>(bL (i:=2) lQ.nd rfl (Or.inl rfl))) (fun _ _ _ _ _=>(jD (aR dm (aD (K:=K) (pv 2) rfl) (pv 1) (aQ _)))) (fun _ _ _ _ _=>(pv 2))) aq)))),?_⟩
 rintro vs R ⟨l,L,c,rfl,hl,hj,hz,rfl⟩
 have e0:EvL (b8 0) (start ["jobs","class_of","job"] [V.ref l,.int c]) H (refs L):=(aa rfl).toL hl
 refine aU ((zR (jZ (K:=K) (k:=2) (ys:=L) (fun p=>V.ref p.1) (fun p=>decide ((p.2.cls:Int)=c)) (fun p=>V.ref p.1) e0 (eZ hz) (fun y hy=>aP (bY (nu (aa rfl) (hj y hy)) (aa rfl))) (fun y hy _=>aa rfl))).cast ?_)
 rw[List.length_map]
theorem Ed{L:List (Addr×Vbbhaj.Job)}{c:Int}(ha:EvL ta σ H (refs L))(hj:DK T H L)(hz:L.length≤500)(hb:Ev tb σ H (.int c)) :
  Ev (fG (ro (aa6 T)) [] E0 (bw ta (bw tb eV))) σ H (.int ((L.filter fun p=>decide ((p.2.cls:Int)=c)).length:Nat)) :=
 O1 (acZ ha Wq (aB hb aV)) fun vs H1 s1 ⟨v,e,l,e2,q⟩=>⟨l,L,c,by rw[e,e2],q,hj.up s1,hz,rfl⟩
def fL(s:Vbbhaj.State)(n:Int):Int:=if Vbbhaj.isNum n=false then -1 else if (Vbbhaj.jobAt s n).isSome=true then 0 else -4
def Wg(T:Txt K mg):GT:=fun vs H R=>∃A s n,vs=[.ref A.b,.int n]∧Rep T H A s∧R=fun v _=>v=.int (fL s n)
theorem Rep.isSome(h:Rep T H A s)(n:Int):(j_ (rC A.L) (Sum.inl n)).isSome=(Vbbhaj.jobAt s n).isSome:=by rw[YM,h.js];rfl
theorem g8(T:Txt K mg):bG P w K mg base CX0 2 T.cR.f T.cR.fd ["board","number"] (ro (Wg T)):=by
 refine cO T.cR.F Fb (fun vs H R ⟨_,_,_,e,_⟩=>by rw[e];rfl) fun cdv A outer s H E hr=>?_
 have hu:=eF hr
 refine⟨_,(ak (a_ (cD (bJ (aK T.gf (xq T) (by exact hr.mono (by decide)) rfl (aj (pv 1) aq)))) (az (aC (bz T.bH rfl))) aL)
   (ak (a_ (aap (NB (by exact hu) (pv 1) (aD (K:=K) (pv 0) rfl))) (az (aC (bz T.DY rfl))) aL)
   (az (aC (bz T.aW rfl))))),?_⟩
 rintro vs R ⟨A,s,n,rfl,h,rfl⟩
 have e0:Ev (b8 0) (start ["board","number"] [V.ref A.b,.int n]) H (.ref A.b):=aa rfl
 have e1:Ev (b8 1) (start ["board","number"] [V.ref A.b,.int n]) H (.int n):=aa rfl
 refine d7 (cC (fu (iV e1))) (fun q=>aU (aJ.cast ?_)) fun q=>?_
 ·unfold fL Vbbhaj.isNum
  rw[if_pos (by simpa using q)]
 refine d7 (fu (Ol e1 (cA e0 h) h.jobs)) (fun q2=>aU (aJ.cast ?_)) fun q2=>aU (aJ.cast ?_)
 ·unfold fL Vbbhaj.isNum
  rw[if_neg (by simpa using q),← h.isSome,if_neg (by simpa using q2)]
 ·unfold fL Vbbhaj.isNum
  rw[if_neg (by simpa using q),← h.isSome,if_pos (by simpa using q2)]
theorem xx{n:Int}(ha:Ev ta σ H (.ref A.b))(hb:Ev tb σ H (.int n))(h:Rep T H A s):Ev (fG (ro (Wg T)) [] E0 (bw ta (bw tb eV))) σ H (.int (fL s n)) :=
 nH (aB ha (aB hb aV)) fun H1 s1=>⟨A,s,n,rfl,h.up s1,rfl⟩
end
end Jq
end
section
set_option Elab.async false
set_option linter.all false
set_option maxRecDepth 100000
set_option maxHeartbeats 1000000
namespace Jq
open PySem PySem.Spec PyProof.Rows L2
section
variable {t ta:TE}{tt:TT}{ts tu tr:TS}{σ:St}{H H':Hp}{R R1:V→Hp→Prop}{b:Bool}
theorem pW{i:Nat}{v:V}(h:Ev t σ H v)(h2:EvS tr (σ.set i (some v)) H R):EvS (m6 (Va t (uL i)) tr) σ H R:=DN h fun v' H1 s e=>by subst e;exact h2.up s
end
theorem yX{s:Vbbhaj.State}{n:Int}{f:Vbbhaj.Job→Vbbhaj.State×Vbbhaj.Ans}(h:fL s n≠0):Vbbhaj.onJob s n f=(s,{num:=fL s n}):=by
 unfold fL at h ⊢
 unfold Vbbhaj.onJob
 by_cases h1:Vbbhaj.isNum n=false
 ·rw[if_pos h1,if_pos h1];rfl
 ·rw[if_neg h1,if_neg h1]
  rw[if_neg h1]at h
  cases e:Vbbhaj.jobAt s n with
  |none=>rfl
  |some j=>rw[e]at h;exact absurd rfl h
theorem qK{s:Vbbhaj.State}{n:Int}(h:fL s n=0):∃j,Vbbhaj.jobAt s n=some j∧∀f:Vbbhaj.Job→Vbbhaj.State×Vbbhaj.Ans,Vbbhaj.onJob s n f=f j:=by
 unfold fL at h
 by_cases h1:Vbbhaj.isNum n=false
 ·rw[if_pos h1]at h;exact absurd h (by decide)
 ·rw[if_neg h1]at h
  cases e:Vbbhaj.jobAt s n with
  |none=>rw[e]at h;exact absurd h (by decide)
  |some j =>
   refine⟨j,rfl,fun f=>?_⟩
   unfold Vbbhaj.onJob
   rw[if_neg h1,e]
theorem jl{b:Bool}(q:(!b)=true):b=false:=by simpa using q
theorem nG{b:Bool}(q:(!b)=false):b=true:=by simpa using q
theorem nF{b:Bool}(q:b=true):¬b=false:=by rw[q];simp
theorem Mx{s:Vbbhaj.State}{n:Int}(q:Vbbhaj.isClass n=false):Vbbhaj.step s (.class_ n)=Vbbhaj.no s 1:=if_pos q
theorem JC{s:Vbbhaj.State}{n:Int}(q:Vbbhaj.isClass n=true):Vbbhaj.step s (.class_ n)=Vbbhaj.yes s (Vbbhaj.classAt s n.toNat).limit [[(Vbbhaj.classAt s n.toNat).closed.toNat,Vbbhaj.runningIn s n.toNat,(s.jobs.filter fun j=>Vbbhaj.isWaiting j&&j.cls==n.toNat).length]]:=if_neg (nF q)
theorem Ry{s:Vbbhaj.State}{n:Int}(q:Vbbhaj.isInit n=false):Vbbhaj.step s (.initiator n)=Vbbhaj.no s 1:=if_pos q
theorem Qx{s:Vbbhaj.State}{n:Int}(q:Vbbhaj.isInit n=true):Vbbhaj.step s (.initiator n)=Vbbhaj.yes s (Vbbhaj.initAt s n).on.toNat [(Vbbhaj.initAt s n).classes,[(Vbbhaj.initAt s n).draining.toNat,(Vbbhaj.initAt s n).job]]:=if_neg (nF q)
theorem Y5(n:Int):wu {num:=n}=[.int n]:=rfl
def pC(r:List Nat):List V:=r.map fun n:Nat=>V.int n
theorem Oz(r:List Nat):(r.map Int.ofNat).map V.int=pC r:=by unfold pC;rw[List.map_map];rfl
theorem iR(r:List Nat):(pC r).length=r.length:=by unfold pC;rw[List.length_map]
theorem Ks(n:Int)(r:List Nat):wu {num:=n,rows:=[r]}=.int n::.int r.length::pC r:=by
 show V.int n::((((r.length:Int)::r.map Int.ofNat)++[]).map V.int)=_
 rw[List.append_nil,List.map_cons,Oz]
theorem acb(n:Int)(r q:List Nat):wu {num:=n,rows:=[r,q]}=.int n::.int r.length::(pC r++(.int q.length::pC q)):=by
 show V.int n::((((r.length:Int)::r.map Int.ofNat)++(((q.length:Int)::q.map Int.ofNat)++[])).map V.int)=_
 rw[List.append_nil,List.map_append,List.map_cons,List.map_cons,Oz,Oz]
 rfl
section
variable {P:Program}{w:World}{K:PySem.W.Frag}{mg:Str→Option Value}{base:Heap}
variable {σ:St}{H:Hp}{ta tb tc td:TE}{a:Addr}{j:Vbbhaj.Job}{A:Ad}{s:Vbbhaj.State}{T:Txt K mg}
theorem Rep.pair(h:Rep T H A s){n:Int}{j:Vbbhaj.Job}(e:Vbbhaj.jobAt s n=some j):∃a,(a,j)∈A.L∧(j.num:Int)=n:=Qz (z:=n) (by rw[h.js];exact e)
theorem Rep.get(h:Rep T H A s){n:Int}(ha:Ev ta σ H (.ref A.dj))(hb:Ev tb σ H (.int n))(m:(a,j)∈A.L)(e:(j.num:Int)=n):Ev (aa3 ta tb) σ H (.ref a):=by
 have:=zg h.Mg m
 exact fH ha hb h.jobs (by rw[← e];exact this)
def gQ1(T:Txt K mg)(mk:Int→Vbbhaj.Call):GT:=fun vs H R=>∃A s n,vs=[.ref A.b,.int n]∧Rep T H A s∧Inv s∧R=IsL (wu (Vbbhaj.step s (mk n)).2)
def gQ0(T:Txt K mg)(c:Vbbhaj.Call):GT:=fun vs H R=>∃A s,vs=[.ref A.b]∧Rep T H A s∧Inv s∧R=IsL (wu (Vbbhaj.step s c).2)
theorem JW{L:List (Addr×Vbbhaj.Job)}{l:List Vbbhaj.Job}(e:L.map (·.2)=l)(p:Vbbhaj.Job→Bool):(L.filter fun q=>p q.2).length=(l.filter p).length:=by
 rw[← e,List.filter_map,List.length_map]
 rfl
theorem sU{n:Nat}(h:n≤100000):n≤sizeLine:=Nat.le_trans h (by decide)
theorem iB{n:Nat}(h:n≤100000):n<sizeLine:=Nat.lt_of_le_of_lt h (by decide)
theorem ado{x:V}:([x]:List V).length≤sizeLine:=by show 1≤sizeLine;decide
theorem aZ{n:Int}(h:Ev ta σ H (.int n)):EvL (Y7 (bw ta eV)) σ H [.int n]:=xY (aB h aV) ado
theorem lY{xs:List V}{n:Nat}(ha:EvL ta σ H xs)(e:xs.length=n):Ev (tCB (fun xs H Q=>∃p ys,xs=[.ref p]∧(SqL K H p ys∨SqT K H p ys)∧Q (.int ys.length) H) (bw ta eV)) σ H (.int n):=(zR ha).cast (by rw[e])
theorem Jx(T:Txt K mg):bG P w K mg base CX0 3 T.jT.f T.jT.fd ["board"] (ro (gQ0 T .counts)):=by
 refine cO T.jT.F Ka (fun vs H R ⟨_,_,e,_⟩=>by rw[e];rfl) fun cdv A outer s H E hr=>?_
 refine⟨_,(az (aC (jm qx (bc (aj (bR Nr rfl T.iT gh (aj (aD (K:=K) (pv 0) rfl) aq)) aq)) (aK T.dJ (fV T) (by exact hr.mono (by decide)) rfl (aj (bc (aj (bR bC rfl T.iT gh (aj (aK T.gO (yK T) (by exact hr.mono (by decide)) rfl (aj (pv 0) aq)) aq)) (aj (bR bC rfl T.iT gh (aj (aK T.jx (BJ T) (by exact hr.mono (by decide)) rfl (aj (pv 0) aq)) aq)) (aj (bR bC rfl T.iT gh (aj (aK T.dW (nU T) (by exact hr.mono (by decide)) rfl (aj (pv 0) aq)) aq)) aq)))) aq))))),?_⟩
 rintro vs R ⟨A,s,rfl,h,iv,rfl⟩
 have e0:Ev (b8 0) (start ["board"] [V.ref A.b]) H (.ref A.b):=aa rfl
 have n1:∀p:Vbbhaj.Job→Bool,(refs (A.L.filter fun q=>p q.2)).length=(s.jobs.filter p).length:=fun p=>by unfold refs;rw[List.length_map,JW h.js]
 refine aU ((mC (aZ ((Wy (cA e0 h) h.jobs).cast (w:=.int s.jobs.length) (by rw[← h.js];unfold rC;rw[List.length_map,List.length_map]))) (gJ (xY (aB (lY (uh e0 h) (n1 _)) (aB (lY (uh e0 h) (n1 _)) (aB (lY (uh e0 h) (n1 _)) aV))) ?_) ?_) ?_).cast ?_)
 ·show 3≤sizeLine;decide
 ·show 3<sizeLine;decide
 ·show 1+4≤sizeLine;decide
 ·exact(Ks (s.jobs.length:Nat) [(s.jobs.filter Vbbhaj.isWaiting).length,(s.jobs.filter Vbbhaj.ready).length,(s.jobs.filter Vbbhaj.isRunning).length]).symm
theorem rm{s:Vbbhaj.State}(g:Good s){c:Int}(h:Vbbhaj.isClass c=true):s.classes[c.toNat - 1]?=some (Vbbhaj.classAt s c.toNat)∧((1+(c.toNat - 1):Nat):Int)=c:=by
 have:=bI.mp h
 unfold Vbbhaj.classAt
 rw[List.getD_eq_getElem?_getD,List.getElem?_eq_getElem (by rw[g.Cp];omega)]
 refine⟨rfl,by omega⟩
theorem Rep.limit(h:Rep T H A s)(g:Good s){c:Int}(hc:Vbbhaj.isClass c=true):j_ (fY (fun c:Vbbhaj.Class=>V.int c.limit) 1 s.classes) (Sum.inl c)=some (.int (Vbbhaj.classAt s c.toNat).limit):=by
 obtain⟨e1,e2⟩:=rm g hc
 have:=xG (fun c:Vbbhaj.Class=>V.int c.limit) s.classes 1 _ _ e1
 rw[e2]at this
 exact this
theorem Rep.closed(h:Rep T H A s)(g:Good s){c:Int}(hc:Vbbhaj.isClass c=true):j_ (fY (fun c:Vbbhaj.Class=>V.bl c.closed) 1 s.classes) (Sum.inl c)=some (.bl (Vbbhaj.classAt s c.toNat).closed):=by
 obtain⟨e1,e2⟩:=rm g hc
 have:=xG (fun c:Vbbhaj.Class=>V.bl c.closed) s.classes 1 _ _ e1
 rw[e2]at this
 exact this
theorem QF{L:List (Addr×Vbbhaj.Job)}{l:List Vbbhaj.Job}(e:L.map (·.2)=l)(p:Vbbhaj.Job→Bool){c:Int}(hc:Vbbhaj.isClass c=true):((L.filter fun q=>p q.2).filter fun q=>decide ((q.2.cls:Int)=c)).length=(l.filter fun j=>p j&&j.cls==c.toNat).length:=by
 have:=bI.mp hc
 rw[List.filter_filter,← e,List.filter_map,List.length_map]
 congr 1
 refine List.filter_congr fun q _=>?_
 show(decide ((q.2.cls:Int)=c)&&p q.2)=(p q.2&&q.2.cls==c.toNat)
 rw[Bool.and_comm]
 congr 1
 rw[Bool.eq_iff_iff]
 simp
 omega
theorem Rep.v9(h:Rep T H A s)(p:Vbbhaj.Job→Bool):DK T H (A.L.filter fun q=>p q.2):=fun q hq=>h.job q (List.mem_filter.mp hq).1
theorem Rep.Js(h:Rep T H A s)(p:Vbbhaj.Job→Bool):(A.L.filter fun q=>p q.2).length≤500:=Nat.le_trans (List.length_filter_le ..) h.PN
theorem M6(T:Txt K mg):bG P w K mg base CX0 3 T.mJ.f T.mJ.fd ["board","class_of"] (ro (gQ1 T .class_)):=by
 refine cO T.mJ.F wI (fun vs H R ⟨_,_,_,e,_⟩=>by rw[e];rfl) fun cdv A outer s H E hr=>?_
 have hu:=eF hr
 refine⟨_,(ak (a_ (cD (bJ (aK T.fW (lK T) (by exact hr.mono (by decide)) rfl (aj (pv 1) aq)))) (az (aC (bc (aj (bz T.bH rfl) aq)))) aL)
   (ak (bu (i:=2) wI.nd rfl (Or.inl rfl) (aK T.cz (ie T) (by exact hr.mono (by decide)) rfl (aj (aK T.dW (nU T) (by exact hr.mono (by decide)) rfl (aj (pv 0) aq)) (aj (pv 1) aq))))
   (ak (bu (i:=3) wI.nd rfl (Or.inl rfl) (aK T.cz (ie T) (by exact hr.mono (by decide)) rfl (aj (aK T.gO (yK T) (by exact hr.mono (by decide)) rfl (aj (pv 0) aq)) (aj (pv 1) aq))))
   (az (aC (jm qx (bc (aj (cM (by exact hu) (aD (K:=K) (pv 0) rfl) (pv 1) (fun _ _=>rfl)) aq)) (aK T.dJ (fV T) (by exact hr.mono (by decide)) rfl (aj (bc (aj (mz Bc rfl T.Ou Pu (aj (cM (by exact hu) (aD (K:=K) (pv 0) rfl) (pv 1) (fun _ _=>rfl)) aq)) (aj (pv 2) (aj (pv 3) aq)))) aq)))))))),?_⟩
 rintro vs R ⟨A,s,n,rfl,h,iv,rfl⟩
 have e0:Ev (b8 0) (start ["board","class_of","running","waiting"] [V.ref A.b,.int n]) H (.ref A.b):=aa rfl
 have e1:Ev (b8 1) (start ["board","class_of","running","waiting"] [V.ref A.b,.int n]) H (.int n):=aa rfl
 refine d7 (cC (fu (iV e1))) (fun q=>aU ((aZ aJ).cast ?_)) fun q=>?_
 ·have q:Vbbhaj.isClass n=false:=jl q
  rw[Mx q];rfl
 have q:Vbbhaj.isClass n=true:=nG q
 refine pW ((Ed (uh e0 h) (h.v9 _) (h.Js _) e1).cast (w:=.int (Vbbhaj.runningIn s n.toNat)) (by rw[QF h.js _ q];rfl)) ?_
 have f0:Ev (b8 0) ((start ["board","class_of","running","waiting"] [V.ref A.b,.int n]).set 2 (some (.int (Vbbhaj.runningIn s n.toNat)))) H (.ref A.b):=aa rfl
 have f1:Ev (b8 1) ((start ["board","class_of","running","waiting"] [V.ref A.b,.int n]).set 2 (some (.int (Vbbhaj.runningIn s n.toNat)))) H (.int n):=aa rfl
 refine pW ((Ed (uh f0 h) (h.v9 _) (h.Js _) f1).cast (w:=.int ((s.jobs.filter fun j=>Vbbhaj.isWaiting j&&j.cls==n.toNat).length:Nat)) (by rw[QF h.js _ q])) ?_
 refine aU ((mC (aZ (fH (Ac (aa rfl) h) (aa rfl) h.lim (h.limit iv.g q))) (gJ (xY (aB (Ip (fH (vJ (aa rfl) h) (aa rfl) h.clo (h.closed iv.g q))) (aB (aa rfl) (aB (aa rfl) aV))) ?_) ?_) ?_).cast ?_)
 ·show 3≤sizeLine;decide
 ·show 3<sizeLine;decide
 ·show 1+4≤sizeLine;decide
 ·rw[JC q]
  refine Eq.trans ?_ (Ks ((Vbbhaj.classAt s n.toNat).limit:Nat) _).symm
  cases (Vbbhaj.classAt s n.toNat).closed<;>rfl
theorem iW(h:Rep T H A s)(g:Good s){c:Int}(hc:Vbbhaj.isInit c=true):∃a,A.I[c.toNat - 1]?=some (a,Vbbhaj.initAt s c)∧j_ (fY (fun p:Addr×Vbbhaj.Init=>V.ref p.1) 1 A.I) (Sum.inl c)=some (.ref a)∧nT T H a (Vbbhaj.initAt s c):=by
 have hi:=bI.mp hc
 have e1:=kW g hc
 rw[← h.is,List.getElem?_map]at e1
 cases e:A.I[c.toNat - 1]? with
 |none=>rw[e]at e1;cases e1
 |some p =>
  rw[e]at e1
  have e1:p.2=Vbbhaj.initAt s c:=Option.some.inj e1
  have e2:=xG (fun p:Addr×Vbbhaj.Init=>V.ref p.1) A.I 1 _ _ e
  rw[show((1+(c.toNat - 1):Nat):Int)=c by omega]at e2
  have e3:=h.int p (List.mem_of_getElem? e)
  rw[e1]at e3
  exact⟨p.1,by rw[← e1],e2,e3⟩
theorem Hs{s:Vbbhaj.State}(iv:Inv s){c:Int}(hc:Vbbhaj.isInit c=true):(Vbbhaj.initAt s c).classes.length≤8:=by
 have hm:=jA iv.g hc
 cases e:(Vbbhaj.initAt s c).on with
 |false=>rw[iv.i.off _ hm e];exact Nat.zero_le _
 |true =>
  have:=iv.i.cls _ hm e
  unfold Vbbhaj.areClasses at this
  simp only[Bool.and_eq_true,decide_eq_true_eq,List.length_map]at this
  exact this.1.2
theorem Fo(T:Txt K mg):bG P w K mg base CX0 2 T.gD.f T.gD.fd ["board","number"] (ro (gQ1 T .initiator)):=by
 refine cO T.gD.F vK (fun vs H R ⟨_,_,_,e,_⟩=>by rw[e];rfl) fun cdv A outer s H E hr=>?_
 have hu:=eF hr
 refine⟨_,(ak (a_ (cD (bJ (aK T.eE (n_ T) (by exact hr.mono (by decide)) rfl (aj (pv 1) aq)))) (az (aC (bc (aj (bz T.bH rfl) aq)))) aL)
   (ak (bu (i:=2) vK.nd rfl (Or.inl rfl) (cM (by exact hu) (aD (K:=K) (pv 0) rfl) (pv 1) (fun _ _=>rfl)))
   (az (aC (jm qx (jm qx (bc (aj (mz Bc rfl T.Ou Pu (aj (aD (K:=K) (pv 2) rfl) aq)) aq)) (aK T.dJ (fV T) (by exact hr.mono (by decide)) rfl (aj (aD (K:=K) (pv 2) rfl) aq))) (aK T.dJ (fV T) (by exact hr.mono (by decide)) rfl (aj (bc (aj (mz Bc rfl T.Ou Pu (aj (aD (K:=K) (pv 2) rfl) aq)) (aj (aD (K:=K) (pv 2) rfl) aq))) aq))))))),?_⟩
 rintro vs R ⟨A,s,n,rfl,h,iv,rfl⟩
 have e0:Ev (b8 0) (start ["board","number","initiator"] [V.ref A.b,.int n]) H (.ref A.b):=aa rfl
 have e1:Ev (b8 1) (start ["board","number","initiator"] [V.ref A.b,.int n]) H (.int n):=aa rfl
 refine d7 (cC (fu (iV e1))) (fun q=>aU ((aZ aJ).cast ?_)) fun q=>?_
 ·have q:Vbbhaj.isInit n=false:=jl q
  rw[Ry q];rfl
 have q:Vbbhaj.isInit n=true:=nG q
 obtain⟨a,i1,i2,i3⟩:=iW h iv.g q
 refine pW (fH (bU e0 h) e1 h.ini i2) ?_
 have few:=Hs iv q
 have v2:Ev (b8 2) ((start ["board","number","initiator"] [V.ref A.b,.int n]).set 2 (some (.ref a))) H (.ref a):=aa rfl
 refine aU ((mC (mC (aZ (Ip (Il v2 i3))) (gJ (ym v2 i3) ?_) ?_) (gJ (xY (aB (Ip (Cj v2 i3)) (aB (lW v2 i3) aV)) ?_) ?_) ?_).cast ?_)
 ·rw[List.length_map];exact Nat.lt_of_le_of_lt few (by decide)
 ·show 1+((List.map _ _).length+1)≤sizeLine
  rw[List.length_map]
  exact Nat.le_trans (show 1+((Vbbhaj.initAt s n).classes.length+1)≤500 by omega) (by decide)
 ·show 2≤sizeLine;decide
 ·show 2<sizeLine;decide
 ·refine eZ ?_
  simp only[List.length_append,List.length_cons,List.length_nil,List.length_map]
  omega
 ·rw[Qx q]
  refine Eq.trans ?_ (acb ((Vbbhaj.initAt s n).on.toNat:Nat) _ _).symm
  rw[List.length_map]
  cases (Vbbhaj.initAt s n).on<;>cases (Vbbhaj.initAt s n).draining<;>rfl
def aaF(T:Txt K mg):GT:=fun vs H R=>∃A s a j,vs=[.ref A.b,.ref a]∧Rep T H A s∧cT T H a j∧R=fun v _=>v=.int (Vbbhaj.duePlace s j)
theorem C_(T:Txt K mg):bG P w K mg base CX0 2 T.fQ.f T.fQ.fd ["board","job"] (ro (aaF T)):=by
 refine cO T.fQ.F oG (fun vs H R ⟨_,_,_,_,e,_⟩=>by rw[e];rfl) fun cdv A outer s H E hr=>?_
 refine⟨_,(ak (a_ (cD (bJ (aK T.lN (uB T) (by exact hr.mono (by decide)) rfl (aj (pv 1) aq)))) (az (aC aH)) aL)
   (az (aC (bR bC rfl T.iT gh (aj (t7 (own:=[("other",2)]) rfl oG.nd (cY (aK T.gG (pB T) (by exact hr.mono (by decide)) rfl (aj (pv 0) aq))) (cH (by show qF ["board","job","other"] (aA jJ) _ _=true;decide +kernel)) (fun _ _ _ _ _=>(bL (i:=2) oG.nd rfl (Or.inl rfl))) (fun _ _ _ _ _=>(jD (PW.pt (Jz (bJ (aK T.lN (uB T) (by exact hr.mono (by decide)) rfl (aj (pv 2) aq))) (Fi (aR eX (aD (K:=K) (pv 2) rfl) (aD (K:=K) (pv 1) rfl) (aQ _))))))) (fun _ _ _ _ _=>(pv 2))) aq))))),?_⟩
 rintro vs R ⟨A,s,a,j,rfl,h,hj,rfl⟩
 refine d7 (cC (fu (nW (aa rfl) hj))) (fun q=>aU (aJ.cast ?_)) fun q=>?_
 ·have q:decide (j.due≠0)=false:=jl q
  unfold Vbbhaj.duePlace
  rw[if_pos (by simpa using q)]
  rfl
 have q:decide (j.due≠0)=true:=nG q
 refine aU ((zR (jZ (K:=K) (k:=2) (ys:=A.L) (fun p=>V.ref p.1) (fun p=>decide (p.2.due≠0)&&decide ((p.2.due:Int)≤(j.due:Int))) (fun p=>V.ref p.1) (Hd (aa rfl) h) (eZ h.PN)
  (fun y hy=>Jg (fu (nW (aa rfl) (h.job y hy))) fun _=>aP (eY (nM (aa rfl) (h.job y hy)) (nM (aa rfl) hj))) (fun y hy _=>aa rfl))).cast ?_)
 unfold Vbbhaj.duePlace
 rw[if_neg (by simpa using q),List.length_map,JW h.js (fun k=>decide (k.due≠0)&&decide ((k.due:Int)≤(j.due:Int)))]
 congr 3
 refine List.filter_congr fun k _=>?_
 rw[Bool.eq_iff_iff]
 simp
 omega
theorem ZV(ha:Ev ta σ H (.ref A.b))(hb:Ev tb σ H (.ref a))(h:Rep T H A s)(hj:cT T H a j):Ev (fG (ro (aaF T)) [] E0 (bw ta (bw tb eV))) σ H (.int (Vbbhaj.duePlace s j)) :=
 nH (aB ha (aB hb aV)) fun H1 s1=>⟨A,s,a,j,rfl,h.up s1,hj.up s1,rfl⟩
theorem vm{s:Vbbhaj.State}{n:Int}:decide (fL s n=0)=false↔fL s n≠0:=by simp
theorem S6{s:Vbbhaj.State}(g:Good s){j:Vbbhaj.Job}(h:j∈s.jobs):j.name.length≤8:=by
 have:=(g.ok j h).name
 unfold Vbbhaj.isName at this
 cases e:j.name with
 |nil=>exact Nat.zero_le _
 |cons c r =>
  rw[e]at this
  simp only[Bool.and_eq_true,decide_eq_true_eq]at this
  exact this.1
theorem Jw(T:Txt K mg):bG P w K mg base CX0 3 T.jP.f T.jP.fd ["board","number"] (ro (gQ1 T .status)):=by
 refine cO T.jP.F qz (fun vs H R ⟨_,_,_,e,_⟩=>by rw[e];rfl) fun cdv A outer s H E hr=>?_
 have hu:=eF hr
 refine⟨_,(ak (bu (i:=2) qz.nd rfl (Or.inl rfl) (aK T.cR (g8 T) (by exact hr.mono (by decide)) rfl (aj (pv 0) (aj (pv 1) aq))))
   (ak (a_ (aR jr (pv 2) (bz T.aW rfl) (aQ _)) (az (aC (bc (aj (pv 2) aq)))) aL)
   (ak (bu (i:=3) qz.nd rfl (Or.inl rfl) (cM (by exact hu) (aD (K:=K) (pv 0) rfl) (pv 1) (fun _ _=>rfl)))
   (ak (bu (i:=4) qz.nd rfl (Or.inl rfl) (bc (aj (aD (K:=K) (pv 3) rfl) (aj (aD (K:=K) (pv 3) rfl) (aj (aD (K:=K) (pv 3) rfl) (aj (aD (K:=K) (pv 3) rfl) (aj (aK T.ph (CG T) (by exact hr.mono (by decide)) rfl (aj (pv 3) (aj (aD (K:=K) (pv 0) rfl) aq))) (aj (mz Bc rfl T.Ou Pu (aj (aD (K:=K) (pv 3) rfl) aq)) (aj (aD (K:=K) (pv 3) rfl) (aj (aD (K:=K) (pv 3) rfl) (aj (aK T.fQ (C_ T) (by exact hr.mono (by decide)) rfl (aj (pv 0) (aj (pv 3) aq))) aq)))))))))))
   (az (aC (jm qx (jm qx (bc (aj aH aq)) (aK T.dJ (fV T) (by exact hr.mono (by decide)) rfl (aj (aD (K:=K) (pv 3) rfl) aq))) (aK T.dJ (fV T) (by exact hr.mono (by decide)) rfl (aj (pv 4) aq))))))))),?_⟩
 rintro vs R ⟨A,s,n,rfl,h,iv,rfl⟩
 refine pW (xx (aa rfl) (aa rfl) h) ?_
 refine d7 (aP (fM (aa rfl) aJ)) (fun q=>aU ((aZ (aa rfl)).cast ?_)) fun q=>?_
 ·have q:=vm.mp (jl q)
  exact((congrArg (fun x=>wu x.2) (yX q)).trans (Y5 _)).symm
 have q:fL s n=0:=by simpa using q
 obtain⟨j,hj,hf⟩:=qK q
 obtain⟨a,m,e⟩:=h.pair hj
 have ja:=h.job _ m
 have mj:j∈s.jobs:=by rw[← h.js];exact List.mem_map_of_mem (f:=(·.2)) m
 refine pW (h.get (cA (aa rfl) h) (aa rfl) m e) ?_
 have nf:=S6 iv.g mj
 refine DN (xY (aB (jL (aa rfl) ja) (aB (Ng (aa rfl) ja) (aB (nu (aa rfl) ja) (aB (Ca (aa rfl) ja) (aB (CT (aa rfl) ja (adf (aa rfl) h) ⟨by have:=iv.g.aging.1;omega,by have:=iv.g.aging.2;omega⟩)
  (aB (Ip (Fz (aa rfl) ja)) (aB (Hh (aa rfl) ja) (aB (wX (aa rfl) ja) (aB (ZV (aa rfl) (aa rfl) h ja) aV))))))))) ?_) ?_
 ·show 9≤sizeLine;decide
 rintro v H1 s1 ⟨l,rfl,hl⟩
 refine aU ((mC (mC (aZ aJ) (gJ (Yv (aa rfl) (ja.up s1)) ?_) ?_) (gJ ((aa rfl).toL hl) ?_) ?_).cast ?_)
 ·rw[List.length_map];exact Nat.lt_of_le_of_lt nf (by decide)
 ·refine eZ ?_
  simp only[List.length_append,List.length_cons,List.length_nil,List.length_map]
  omega
 ·show 9<sizeLine;decide
 ·refine eZ ?_
  simp only[List.length_append,List.length_cons,List.length_nil,List.length_map]
  omega
 ·have e2:Vbbhaj.step s (.status n)=_:=hf _
  rw[e2]
  refine Eq.trans ?_ (acb (0:Nat) _ _).symm
  rw[List.length_map,Px]
  have e3:pC (j.name.map UInt8.toNat)=j.name.map fun c=>V.int c.toNat:=by unfold pC;rw[List.map_map];rfl
  rw[e3,List.length_map]
  unfold Vbbhaj.stateOf
  cases hs:j.status with
  |waiting=>cases j.held<;>rfl
  |running=>cases j.held<;>rfl
  |ended z=>cases z<;>cases j.held<;>rfl
def aaS:GT:=fun vs H R=>∃l ps n,vs=[.ref l,.int n]∧Bu H ps (.ref l)∧ps.length≤500∧R=fun v _=>v=.bl (ps.any fun p=>decide (p.2.1=n))
theorem Pa(T:Txt K mg):bG P w K mg base CX0 1 T.pA.f T.pA.fd ["tests","number"] (ro aaS):=by
 refine cO T.pA.F xO (fun vs H R ⟨_,_,_,e,_⟩=>by rw[e];rfl) fun cdv A outer s H E hr=>?_
 refine⟨_,(az (aC (bR (acx rfl) rfl T.ZF adp (aj (t7 (own:=[("test",2)]) rfl xO.nd (cY (pv 0)) (cH (by show qF ["tests","number","test"] (aA uq) _ _=true;decide +kernel)) (fun _ _ _ _ _=>(bL (i:=2) xO.nd rfl (Or.inl rfl))) (fun _ _ _ _ _=>yh) (fun _ _ _ _ _=>(fK dm (cZ (bA (K:=K)) (pv 2) aH (fun _ _=>rfl)) (pv 1) (aQ _)))) aq)))),?_⟩
 rintro vs R ⟨l,ps,n,rfl,ht,hz,rfl⟩
 obtain⟨l',e,hl,hp⟩:=id ht
 cases e
 refine aU ((acA (bs:=ps.map fun p=>decide (p.2.1=n)) ((jZ (K:=K) (k:=2) (ys:=ps) (fun p=>V.ref p.1) (fun _=>true) (fun p=>V.bl (decide (p.2.1=n))) ((aa rfl).toL hl) (eZ hz) (fun y hy=>PQ)
  (fun y hy _=>bY (Pb (aa rfl) (SqT.of (hp y hy)) aJ rfl) (aa rfl))).cast ?_)).cast ?_)
 ·rw[List.map_map]
  congr 1
  simp
 ·rw[List.any_map]
  rfl
theorem Xn{ps:List (Addr×Int×Int×Int)}{ts:List Vbbhaj.Test}(e:ps.map (·.2)=ts.map tri)(n:Nat):(ps.any fun p=>decide (p.2.1=(n:Int)))=ts.any fun t=>t.job==n:=by
 have h1:(ps.any fun p=>decide (p.2.1=(n:Int)))=(ps.map (·.2)).any fun q=>decide (q.1=(n:Int)):=by rw[List.any_map];rfl
 rw[h1,e,List.any_map]
 congr 1
 funext t
 show decide ((t.job:Int)=(n:Int))=(t.job==n)
 rw[Bool.eq_iff_iff]
 simp
 omega
theorem GD{ps:List (Addr×Int×Int×Int)}{ts:List Vbbhaj.Test}(e:ps.map (·.2)=ts.map tri):ps.length=ts.length:=by
 have:=congrArg List.length e
 rw[List.length_map,List.length_map]at this
 exact this
theorem Mm(T:Txt K mg):bG P w K mg base CX0 3 T.lZ.f T.lZ.fd ["board","number"] (ro (gQ1 T .after)):=by
 refine cO T.lZ.F rP (fun vs H R ⟨_,_,_,e,_⟩=>by rw[e];rfl) fun cdv A outer s H E hr=>?_
 have hu:=eF hr
 refine⟨_,(ak (bu (i:=2) rP.nd rfl (Or.inl rfl) (aK T.cR (g8 T) (by exact hr.mono (by decide)) rfl (aj (pv 0) (aj (pv 1) aq))))
   (ak (a_ (aR jr (pv 2) (bz T.aW rfl) (aQ _)) (az (aC (bc (aj (pv 2) aq)))) aL)
   (ak (xH (i:=3) (own:=[("job",4)]) rfl rP.nd rfl rfl (Bj rfl rfl rfl (by decide +kernel)) (cY (aK T.gG (pB T) (by exact hr.mono (by decide)) rfl (aj (pv 0) aq))) (cH (by show qF ["board","number","refusal","row","job"] (aA rR) _ _=true;decide +kernel)) (fun _ _ _ _ _=>(bL (i:=4) rP.nd rfl (Or.inl rfl))) (fun _ _ _ _ _=>(jD (bJ (aK T.pA (Pa T) (by exact hr.mono (by decide)) rfl (aj (aD (K:=K) (pv 4) rfl) (aj (pv 1) aq)))))) (fun _ _ _ _ _=>(aD (K:=K) (pv 4) rfl)))
   (az (aC (jm qx (bc (aj (bR bC rfl T.iT gh (aj (pv 3) aq)) aq)) (aK T.dJ (fV T) (by exact hr.mono (by decide)) rfl (aj (pv 3) aq)))))))),?_⟩
 rintro vs R ⟨A,s,n,rfl,h,iv,rfl⟩
 refine pW (xx (aa rfl) (aa rfl) h) ?_
 refine d7 (aP (fM (aa rfl) aJ)) (fun q=>aU ((aZ (aa rfl)).cast ?_)) fun q=>?_
 ·have q:=vm.mp (jl q)
  exact((congrArg (fun x=>wu x.2) (yX q)).trans (Y5 _)).symm
 have q:fL s n=0:=by simpa using q
 obtain⟨j,hj,hf⟩:=qK q
 obtain⟨a,m,e⟩:=h.pair hj
 refine DN (jZ (K:=K) (k:=4) (ys:=A.L) (fun p=>V.ref p.1) (fun p=>p.2.tests.any fun t=>t.job==j.num) (fun p=>V.int p.2.num) (Hd (aa rfl) h) (eZ h.PN) (fun y hy=>?_) (fun y hy _=>gA (aa rfl) (h.job y hy))) ?_
 ·obtain⟨dx,na,l,ej,_,ps,ep,ht⟩:=id (h.job y hy)
  have my:y.2∈s.jobs:=by rw[← h.js];exact List.mem_map_of_mem (f:=(·.2)) hy
  have few:=(iv.g.ok _ my).few
  refine fu (Ev.cast (nH (G:=aaS) (aB (b_ (aa rfl) ej T.bQ T.ir (JV.Ir _)) (aB (aa rfl) aV)) fun H1 s1=>⟨l,ps,n,rfl,wD _ _ _ s1 ht,by rw[GD ep];omega,rfl⟩) ?_)
  rw[← e,Xn ep]
 rintro v H1 s1 ⟨l,rfl,hl⟩
 have ff:=h.Js fun k=>k.tests.any fun t=>t.job==j.num
 have hv:EvL (b8 3) (((start ["board","number","refusal","row","job"] [V.ref A.b,.int n]).set 2 (some (.int (fL s n)))).set 3 (some (.ref l))) H1 _:=(aa rfl).toL hl
 refine aU ((mC (aZ (zR hv)) (gJ hv ?_) ?_).cast ?_)
 ·rw[List.length_map];exact Nat.lt_of_le_of_lt ff (by decide)
 ·refine sU ?_
  simp only[List.length_cons,List.length_nil,List.length_map]
  omega
 ·have e2:Vbbhaj.step s (.after n)=_:=hf _
  rw[e2]
  refine Eq.trans ?_ (Ks _ _).symm
  have e3:(A.L.filter fun p=>p.2.tests.any fun t=>t.job==j.num).map (fun p=>V.int p.2.num)=pC ((s.jobs.filter fun k=>k.tests.any fun t=>t.job==j.num).map fun k=>k.num):=by
   unfold pC
   rw[← h.js,List.filter_map,List.map_map,List.map_map]
   rfl
  rw[e3,iR,List.length_map]
  rfl
end
end Jq
end
section
set_option Elab.async false
set_option linter.all false
set_option maxRecDepth 100000
set_option maxHeartbeats 1000000
namespace Jq
open PySem PySem.Spec PyProof.Rows L2
theorem abE{A:Around}{k:Nat}(hr:jF k A):A.units+65<cLine:=by have:=hr.un;omega
section
variable {P:Program}{w:World}{K:PySem.W.Frag}{mg:Str→Option Value}{base:Heap}
variable {σ:St}{H:Hp}{ta tb tc td:TE}{a:Addr}{j:Vbbhaj.Job}{A:Ad}{s:Vbbhaj.State}{T:Txt K mg}
def abj(f:List Int→V)(few:Nat):GT:=fun vs H R=>∃l xs,vs=[.ref l]∧H l=some (.lst (xs.map V.int))∧xs.length≤few∧R=fun v _=>v=f xs
theorem QD{f:List Int→V}{few:Nat}{xs:List Int}(ha:EvL ta σ H (xs.map V.int))(hz:xs.length≤few):Ev (fG (ro (abj f few)) [] E0 (bw ta eV)) σ H (f xs) :=
 O1 (acZ ha Wq aV) fun vs H1 s1 ⟨v,e,l,e2,q⟩=>⟨l,xs,by rw[e,e2],q,hz,rfl⟩
def qD(xs:List Int):Bool:=decide ((xs.length:Int) % 3=0)&&decide ((xs.length:Int) / 3≤8)
theorem De(T:Txt K mg):bG P w K mg base CX0 1 T.fU.f T.fU.fd ["row"] (ro (abj (fun xs=>.bl (qD xs)) 100000)):=by
 refine cO T.fU.F DP (fun vs H R ⟨_,_,e,_⟩=>by rw[e];rfl) fun cdv A outer s H E hr=>⟨_,(az (aC (vU (fK dm (jm adv (bR bC rfl T.iT gh (aj (pv 0) aq)) aH) aH (aQ _)) (wj (fK eX (jm QT (bR bC rfl T.iT gh (aj (pv 0) aq)) aH) (bz T.yx rfl) (aQ _)))))),?_⟩
 rintro vs R ⟨l,xs,rfl,h,hz,rfl⟩
 have hv:EvL (b8 0) (start ["row"] [V.ref l]) H (xs.map V.int):=(aa rfl).toL h
 have hn:(xs.map V.int).length=xs.length:=List.length_map ..
 exact aU ((vN (bY (Io (lY hv hn) aJ (by decide)) aJ) fun _=>eY (Io (lY hv hn) aJ ⟨by decide,by decide⟩) aJ).cast rfl)
def ju(t:Int×Int×Int):Bool:=Vbbhaj.isNum t.1&&(Vbbhaj.inside t.2.1 0 3&&Vbbhaj.inside t.2.2 0 4095)
def ace:GT:=fun vs H R=>∃x y z,vs=[.int x,.int y,.int z]∧R=fun v _=>v=.bl (ju (x,y,z))
theorem Vk(T:Txt K mg):bG P w K mg base CX0 2 T.uA.f T.uA.fd ["job","kind","n"] (ro ace):=by
 refine cO T.uA.F TX (fun vs H R ⟨_,_,_,e,_⟩=>by rw[e];rfl) fun cdv A outer s H E hr=>⟨_,(az (aC (vU (aK T.gf (xq T) (by exact hr.mono (by decide)) rfl (aj (pv 0) aq)) (vU (iu eX eX aH (pv 1) aH) (wj (aK T.qY (Kz T) (by exact hr.mono (by decide)) rfl (aj (pv 2) aq))))))),?_⟩
 rintro vs R ⟨x,y,z,rfl,rfl⟩
 exact aU ((vN (iV (aa rfl)) fun _=>vN ((gk aJ (aa rfl) aJ).cast (congrArg V.bl (dR _ _ _).symm)) fun _=>iV (aa rfl)).cast rfl)
def nm(xs:List Int):Bool:=(decide (1≤(xs.length:Int))&&decide ((xs.length:Int)≤8))&&(Vbbhaj.inside (xs.headD 0) 65 90&&xs.all fun c=>Vbbhaj.inside c 65 90||Vbbhaj.inside c 48 57)
theorem T_(T:Txt K mg):bG P w K mg base CX0 2 T.uC.f T.uC.fd ["row"] (ro (abj (fun xs=>.bl (nm xs)) 100000)):=by
 refine cO T.uC.F K8 (fun vs H R ⟨_,_,e,_⟩=>by rw[e];rfl) fun cdv A outer s H E hr=>⟨_,(ak (a_ (cD (RT eX eX aH (bR bC rfl T.iT gh (aj (pv 0) aq)) (bz T.vf rfl))) (az (aC kI)) aL)
   (ak (a_ (cD (bJ (aK T.kO (Ex T) (by exact hr.mono (by decide)) rfl (aj (cZ (bA (K:=K)) (pv 0) aH (fun _ _=>rfl)) aq)))) (az (aC kI)) aL)
   (ak (tK PassesOwn.never rfl (cY (pv 0)) (bL (i:=1) K8.nd rfl (Or.inl rfl)) (az (a_ (PW.pt (Jz (cD (bJ (aK T.kO (Ex T) (by exact hr.mono (by decide)) rfl (aj (pv 1) aq)))) (Fi (cD (bJ (aK T.rK (TQ T) (by exact hr.mono (by decide)) rfl (aj (pv 1) aq))))))) (az (aC kI)) aL)))
   (az (aC kI))))),?_⟩
 rintro vs R ⟨l,xs,rfl,h,hz,rfl⟩
 have hv:EvL (b8 0) (start ["row","byte"] [V.ref l]) H (xs.map V.int):=(aa rfl).toL h
 have hn:(xs.map V.int).length=xs.length:=List.length_map ..
 refine d7 (cC (aP (gk aJ (lY hv hn) aJ))) (fun q=>aU (aJ.cast ?_)) fun q=>?_
 ·have q:=jl q
  show V.bl false=V.bl (nm xs)
  unfold nm
  rw[q]
  rfl
 have q:=nG q
 obtain⟨x,r,rfl⟩:∃x r,xs=x::r:=by
  cases xs with
  |nil=>exact absurd q (by decide)
  |cons x r=>exact⟨x,r,rfl⟩
 refine d7 (cC (fu (iV (qG (v:=.int x) hv aJ (Qt (j:=0) rfl))))) (fun q2=>aU (aJ.cast ?_)) fun q2=>?_
 ·have q2:=jl q2
  show V.bl false=V.bl (nm (x::r))
  unfold nm
  rw[q,show Vbbhaj.inside ((x::r).headD 0) 65 90=false from q2]
  rfl
 have q2:=nG q2
 refine W7 (K:=K) (ys:=x::r) V.int (fun c=>!Vbbhaj.inside c 65 90&&!Vbbhaj.inside c 48 57) (by show 1<2;decide) hv (fun y hy=>Jg (cC (fu (iV (aa rfl)))) fun _=>cC (fu (iV (aa rfl)))) (fun y hy q3=>aU (aJ.cast ?_)) fun hg o=>aU (aJ.cast ?_)
 ·show V.bl false=V.bl (nm (x::r))
  unfold nm
  rw[q]
  have:((x::r).all fun c=>Vbbhaj.inside c 65 90||Vbbhaj.inside c 48 57)=false:=by
   rw[List.all_eq_false]
   refine⟨y,hy,?_⟩
   simp only[Bool.and_eq_true,Bool.not_eq_true']at q3
   rw[q3.1,q3.2]
   simp
  rw[this,Bool.and_false]
  rfl
 ·show V.bl true=V.bl (nm (x::r))
  unfold nm
  rw[q,show Vbbhaj.inside ((x::r).headD 0) 65 90=true from q2]
  have:((x::r).all fun c=>Vbbhaj.inside c 65 90||Vbbhaj.inside c 48 57)=true:=by
   rw[List.all_eq_true]
   intro y hy
   have:=hg y hy
   cases h1:Vbbhaj.inside y 65 90<;>cases h2:Vbbhaj.inside y 48 57<;>simp_all
  rw[this]
  rfl
theorem X3{ns:List Int}(ha:EvL ta σ H (ns.map V.int))(hz:ns.length≤400):Ev (tCB (fun xs H Q=>∃a S n,xs=[V.ref a]∧H a=some (.set S n)∧Q (.int (n:Nat)) H) (bw (tCB aac (bw ta eV)) eV)) σ H (.int (firstMet (fun i=>ns.getD i 0) ns.length).length):=fun H1 s Q k =>
 ha H1 s _ fun x' H2 s2 ⟨l,e,q⟩=>⟨l,ns,by rw[e],q,hz,fun p hp S=>⟨p,S,_,rfl,aX,k _ _ (s2.trans (ji hp)) rfl⟩⟩
theorem GZ(T:Txt K mg):bG P w K mg base CX0 2 T.gZ.f T.gZ.fd ["row"] (ro (abj (fun xs=>.bl (Vbbhaj.areClasses xs)) 400)):=by
 refine cO T.gZ.F xn (fun vs H R ⟨_,_,e,_⟩=>by rw[e];rfl) fun cdv A outer s H E hr=>⟨_,(ak (a_ (cD (RT eX eX aH (bR bC rfl T.iT gh (aj (pv 0) aq)) (bz T.jt rfl))) (az (aC kI)) aL)
   (ak (tK PassesOwn.never rfl (cY (pv 0)) (bL (i:=1) xn.nd rfl (Or.inl rfl)) (az (a_ (cD (bJ (aK T.fW (lK T) (by exact hr.mono (by decide)) rfl (aj (pv 1) aq)))) (az (aC kI)) aL)))
   (az (aC (fK dm (bR X_ rfl T.iT gh (aj (mz (aa_ rfl) rfl T.aaq acO (aj (pv 0) aq)) aq)) (bR bC rfl T.iT gh (aj (pv 0) aq)) (aQ _)))))),?_⟩
 rintro vs R ⟨l,xs,rfl,h,hz,rfl⟩
 have hv:EvL (b8 0) (start ["row","class_of"] [V.ref l]) H (xs.map V.int):=(aa rfl).toL h
 have hn:(xs.map V.int).length=xs.length:=List.length_map ..
 have e8:decide (1≤xs.length∧xs.length≤8)=(decide (1≤(xs.length:Int))&&decide ((xs.length:Int)≤8)):=by
  rw[Bool.eq_iff_iff]
  simp
  omega
 refine d7 (cC (aP (gk aJ (lY hv hn) aJ))) (fun q=>aU (aJ.cast ?_)) fun q=>?_
 ·have q:=jl q
  show V.bl false=V.bl (Vbbhaj.areClasses xs)
  rw[vY,e8,q]
  rfl
 have q:=nG q
 refine W7 (K:=K) (ys:=xs) V.int (fun c=>!Vbbhaj.isClass c) (by show 1<2;decide) hv (fun y hy=>cC (fu (iV (aa rfl)))) (fun y hy q3=>aU (aJ.cast ?_)) fun hg o=>?_
 ·have q3:=jl q3
  have:xs.all Vbbhaj.isClass=false:=by
   rw[List.all_eq_false]
   exact⟨y,hy,by rw[q3];simp⟩
  show V.bl false=V.bl (Vbbhaj.areClasses xs)
  rw[vY,this,Bool.false_and,Bool.and_false]
 ·have hv':EvL (b8 0) ((start ["row","class_of"] [V.ref l]).set 1 o) H (xs.map V.int):=(aa rfl).toL h
  refine aU ((bY (X3 hv' hz) (lY hv' hn)).cast ?_)
  have e2:xs.all Vbbhaj.isClass=true:=List.all_eq_true.mpr fun y hy=>nG (hg y hy)
  show _=V.bl (Vbbhaj.areClasses xs)
  rw[vY,e8,q,e2,Bool.true_and,Bool.true_and]
  congr 1
  rw[Bool.eq_iff_iff,decide_eq_true_eq,decide_eq_true_eq,← S5]
  omega
theorem Rh{J:It}{n:Nat}{g:TG}{tt:TT}{te:TE}{vs:List Nat}{σ:St}{H1:Hp}{D:Addr}{Qd:Hp→Prop}(Pv:Nat→Hp→Prop)(h0:Pv 0 (upd H1 D (.lst [])))(stop:∀H,J.stop n H)(go:∀i H,i<n→J.go i H)
  (hs:∀i H x H',i<n→Pv i H→J.yld i H x H'→g x (wipe σ vs) H' fun σ2 H2=>wipe σ2 vs=wipe σ vs∧tt σ2 H2 fun b H3 =>
   if b=true then te σ2 H3 fun y H4=>∃acc,H4 D=some (.lst acc)∧acc.length<sizeLine∧Pv (i+1) (upd H4 D (.lst (acc++[y])))else Pv (i+1) H3) (hd:∀H,Pv n H→Qd H) :
  ∃W:Nat→Nat→Hp→Prop,(∃m,W 0 m (upd H1 D (.lst [])))∧∀i m H,W i m H →
   (J.stop i H∧Qd H)∨(J.go i H∧∃Nx:Hp→Prop,(∀H',Nx H'→∃m',m'<m∧W (i+1) m' H')∧∀x H',J.yld i H x H'→g x (wipe σ vs) H' fun σ2 H2=>wipe σ2 vs=wipe σ vs∧tt σ2 H2 fun b H3 =>
    if b=true then te σ2 H3 fun y H4=>∃acc,H4 D=some (.lst acc)∧acc.length<sizeLine∧Nx (upd H4 D (.lst (acc++[y])))else Nx H3):=by
 refine⟨fun i m H=>m=n - i∧i≤n∧Pv i H,⟨n,by simp,Nat.zero_le _,h0⟩,?_⟩
 rintro i m H ⟨rfl,hi,p⟩
 by_cases hlt:i<n
 ·exact .inr ⟨go i H hlt,Pv (i+1),fun H' p'=>⟨n - (i+1),by omega,rfl,hlt,p'⟩,fun x H' y=>hs i H x H' hlt p y⟩
 ·have e:i=n:=by omega
  subst e
  exact .inl ⟨stop H,hd H p⟩
theorem rg3{n:Nat}(h:n≤8):RgC 0 ((3 * n:Nat):Int) 3 n:=by
 have:n=0∨n=1∨n=2∨n=3∨n=4∨n=5∨n=6∨n=7∨n=8:=by omega
 rcases this with rfl|rfl|rfl|rfl|rfl|rfl|rfl|rfl|rfl<;>exact⟨by decide,by decide,by decide +kernel,by decide +kernel⟩
theorem abR{xs:List Int}{n i k:Nat}(hx:xs.length=3 * n)(hi:i<n)(hk:k<3):atI (xs.map V.int) (((3 * i+k:Nat)):Int)=some (.int (xs.getD (3 * i+k) 0)):=by
 refine Qt ?_
 rw[List.getElem?_map,List.getD_eq_getElem?_getD,List.getElem?_eq_getElem (by omega)]
 rfl
def Pj:GT:=fun vs H R=>∃l xs n,vs=[.ref l]∧H l=some (.lst (xs.map V.int))∧xs.length=3 * n∧n≤8∧R=fun v H'=>∃ps,ps.map (·.2)=(List.range n).map (wJ xs)∧Bu H' ps v∧∀p∈ps,H p.1=none
theorem zO(T:Txt K mg):bG P w K mg base CX0 1 T.iI.f T.iI.fd ["row"] (ro Pj):=by
 refine cO T.iI.F uG (fun vs H R ⟨_,_,_,e,_⟩=>by rw[e];rfl) fun cdv A outer s H E hr=>⟨_,(az (aC (t7 (own:=[("place",1)]) rfl uG.nd (Xj rfl T.xT (aj aH (aj (bR bC rfl T.iT gh (aj (pv 0) aq)) (aj aH aq)))) (cH (by show qF ["row","place"] (aA pF) _ _=true;decide +kernel)) (fun _ _ _ _ _=>(bL (i:=1) uG.nd rfl (Or.inl rfl))) (fun _ _ _ _ _=>yh) (fun _ _ _ _ _=>(U9 (aj (cZ (bA (K:=K)) (pv 0) (pv 1) (fun _ _=>rfl)) (aj (cZ (bA (K:=K)) (pv 0) (jm zc (pv 1) aH) (fun _ _=>rfl)) (aj (cZ (bA (K:=K)) (pv 0) (jm zc (pv 1) aH) (fun _ _=>rfl)) aq)))))))),?_⟩
 rintro vs R ⟨l,xs,n,rfl,h,hx,hn,rfl⟩
 refine aU ?_
 intro H1 s1 Q k
 have hv:EvL (b8 0) (start ["row","place"] [V.ref l]) H1 (xs.map V.int):=(aa rfl).toL (s1 _ _ h)
 have hl1:(xs.map V.int).length=3 * n:=by rw[List.length_map];exact hx
 unfold tLc acd
 refine EvA.use (aB aJ (aB (lY (K:=K) hv hl1) (aB aJ aV))) fun vs Hc sx e=>?_
 subst e
 refine⟨0,((3 * n:Nat):Int),3,n,rfl,rg3 hn,fun D hD=>?_⟩
 refine Rh (n:=n) (Qd:=fun H'=>Q (.ref D) H') (fun i H'=>aY Hc H'∧∃ps:List (Addr×Int×Int×Int),ps.map (·.2)=(List.range i).map (wJ xs)∧H' D=some (.lst (ps.map fun p=>V.ref p.1))∧(∀p∈ps,H' p.1=some (.tup [.int p.2.1,.int p.2.2.1,.int p.2.2.2]))∧∀p∈ps,H p.1=none)
  ⟨ji hD,[],rfl,aX,by simp,by simp⟩ (fun H=>Nat.le_refl _) (fun i H hi=>hi) ?_ ?_
 ·rintro i H2 x H3 hi ⟨s2,ps,e1,e2,e3,e9⟩ ⟨rfl,rfl⟩
  refine⟨Ey _ 1 _,?_⟩
  simp only[YB,if_true]
  have hl:∀{H':Hp},aY H3 H'→EvL (b8 0) ((wipe (start ["row","place"] [V.ref l]) [1]).set 1 (some (.int (0+(i:Nat) * 3)))) H' (xs.map V.int):=fun s'=>(aa rfl).toL (s' _ _ (s2 _ _ (sx _ _ (s1 _ _ h))))
  have e0:∀m:Nat,m<3→atI (xs.map V.int) (0+(i:Nat) * 3+(m:Int))=some (.int (xs.getD (3 * i+m) 0)):=fun m hm=>by
   have:=abR hx hi hm
   rw[← this]
   congr 1
   omega
  refine(EvA.use (aB (qG (K:=K) (hl (aY.refl _)) (aa rfl) (show atI (xs.map V.int) (0+(i:Nat) * 3)=some (.int (xs.getD (3 * i) 0))from by have:=e0 0 (by decide);simpa using this)) (aB (qG (K:=K) (hl (aY.refl _)) (eY (aa rfl) aJ) (e0 1 (by decide))) (aB (qG (K:=K) (hl (aY.refl _)) (eY (aa rfl) aJ) (e0 2 (by decide))) aV))) fun us H4 s4 e4=>?_)
  subst e4
  refine⟨by show 3≤sizeLine;decide,fun p hp=>?_⟩
  refine⟨ps.map fun p=>V.ref p.1,?_,?_,?_,ps++[(p,wJ xs i)],?_,?_,?_,?_⟩
  ·rw[aO (bj (s4 _ _ e2) hp)];exact s4 _ _ e2
  ·have:=congrArg List.length e1
   rw[List.length_map,List.length_map,List.length_range]at this
   rw[List.length_map,this]
   exact iB (by omega)
  ·intro b o eb
   have hb:H4 b=some o:=s4 _ _ (s2 _ _ eb)
   rw[aO (bj eb hD),aO (bj hb hp)]
   exact hb
  ·rw[List.map_append,e1,List.range_succ,List.map_append]
   rfl
  ·rw[aX,List.map_append]
   rfl
  ·intro r hr
   have hDp:(upd H4 p (.tup [.int (xs.getD (3 * i) 0),.int (xs.getD (3 * i+1) 0),.int (xs.getD (3 * i+2) 0)])) D=some (.lst (ps.map fun p=>V.ref p.1)):=by rw[aO (bj (s4 _ _ e2) hp)];exact s4 _ _ e2
   have hrp:(upd H4 p (.tup [.int (xs.getD (3 * i) 0),.int (xs.getD (3 * i+1) 0),.int (xs.getD (3 * i+2) 0)])) r.1=some (.tup [.int r.2.1,.int r.2.2.1,.int r.2.2.2]):=by
    rcases List.mem_append.mp hr with hr|hr
    ·have:=s4 _ _ (e3 r hr)
     rw[aO (bj this hp)]
     exact this
    ·rw[List.mem_singleton.mp hr,aX]
     rfl
   rw[aO (cB hrp hDp (by intro z;cases z))]
   exact hrp
  ·intro r hr
   rcases List.mem_append.mp hr with hr|hr
   ·exact e9 r hr
   ·rw[List.mem_singleton.mp hr]
    exact(s1.trans (sx.trans (s2.trans s4))).free hp
 ·rintro H' ⟨s3,ps,e1,e2,e3,e9⟩
  exact k _ _ (sx.trans s3) ⟨ps,e1,⟨D,rfl,e2,e3⟩,e9⟩
end
end Jq
end
section
set_option Elab.async false
set_option linter.all false
set_option maxRecDepth 100000
set_option maxHeartbeats 1000000
namespace L2
open PySem PySem.Spec PyProof.Rows
section
variable {K:PySem.W.Frag}{tl:TE}{tb tr:TS}{σ:St}{H:Hp}{k1 k2 k3:Nat}{R:V→Hp→Prop}
theorem Lp{t1 t2:TE}{x:V}{R:V→Hp→Prop}(ha:Ev t1 σ H x)(hb:EvP t2 σ H R)(m:Tz R):EvA (bw t1 (bw t2 eV)) σ H fun vs H'=>∃v,vs=[x,v]∧R v H':=fun H1 s Q k =>
 ha H1 s _ fun x' H2 s2 e=>hb H2 (s.trans s2) _ fun y H3 s3 r=>k _ H3 (s2.trans s3) ⟨y,by rw[e],r⟩
theorem aN{t u:TS}{D:Ends}(h:t {D with nx:=u D} σ H):m6 t u D σ H:=h
theorem iw{te:TE}{i:Nat}{v:V}{D:Ends}(h:Ev te σ H v)(k:∀H',aY H H'→D.nx (σ.set i (some v)) H'):Va te (uL i) D σ H:=h H (aY.refl _) _ fun u H' s e=>by subst e;exact k H' s
theorem uY{te:TE}{i:Nat}{R:V→Hp→Prop}{D:Ends}(h:EvP te σ H R)(k:∀v H',aY H H'→R v H'→D.nx (σ.set i (some v)) H'):Va te (uL i) D σ H:=h H (aY.refl _) _ k
theorem En{c:TT}{t u:TS}{b:Bool}{D:Ends}(h:EvT c σ H b)(k1:b=true→∀H',aY H H'→t D σ H')(k2:b=false→∀H',aY H H'→u D σ H'):Xf c t u D σ H:=h H (aY.refl _) _ fun H' s=>by
 cases b with
 |true=>exact Ib (k1 rfl H' s)
 |false=>exact HS (k2 rfl H' s)
theorem cI{te:TE}{R:V→Hp→Prop}{D:Ends}(h:EvP te σ H R)(k:∀v H',aY H H'→R v H'→D.rt v H'):JT te D σ H:=h H (aY.refl _) _ k
theorem J9{ps:List (Addr×Int×Int×Int)}(Sg:St→Prop)(p:Int×Int×Int→Bool)(h0:Sg σ)(hl:EvP tl σ H fun v H=>Bu H ps v)
  (hs:∀y∈ps,∀σ',Sg σ'→∀H1,aY H H1→∀D:Ends,(p y.2=true→∀v H',aY H1 H'→R v H'→D.rt v H')→(p y.2=false→∀σ'' H',Sg σ''→aY H1 H'→D.nx σ'' H') →
   tb D (((σ'.set k1 (some (.int y.2.1))).set k2 (some (.int y.2.2.1))).set k3 (some (.int y.2.2.2))) H1)
  (hg:(∀y∈ps,p y.2=false)→∀σ',Sg σ'→EvS tr σ' H R) :
  EvS (m6 (aab (Oc K tl) (adT K 3 (Wt (uL k1) (Wt (uL k2) (Wt (uL k3) adC)))) tb) tr) σ H R:=by
 intro H1 s D q
 refine hl H1 s _ fun v H2 s2 ⟨l,e,hl2,ht2⟩=>⟨l,e,⟨_,SqL.of hl2⟩,?_⟩
 refine JZ (K:=K) (a:=l) (xs:=ps.map fun p=>V.ref p.1) (fun i σ' H'=>aY H2 H'∧(∀y∈ps.take i,p y.2=false)∧Sg σ') ⟨aY.refl _,by simp,h0⟩ (fun i σ' H' _ h=>SqL.of (h.1 _ _ hl2)) ?_ ?_
 ·rintro i x σ' H' hx ⟨s3,h3,hsg⟩
  obtain⟨y,hy,rfl⟩:∃y,ps[i]?=some y∧V.ref y.1=x:=by
   rw[List.getElem?_map]at hx
   cases e:ps[i]? with
   |none=>rw[e]at hx;cases hx
   |some y=>rw[e]at hx;exact⟨y,rfl,Option.some.inj hx⟩
  have mx:y∈ps:=List.mem_of_getElem? hy
  refine⟨y.1,_,rfl,SqT.of (s3 _ _ (ht2 y mx)),rfl,_,_,rfl,_,_,rfl,_,_,rfl,rfl,?_⟩
  refine hs y mx σ' hsg H' (s.trans (s2.trans s3)) _ (fun hp v H4 s4 r=>q v H4 (s2.trans (s3.trans s4)) r) fun hp σ'' H4 g4 s4=>⟨s3.trans s4,fun z hz=>?_,g4⟩
  rw[q_ hy]at hz
  rcases List.mem_append.mp hz with hz|hz
  ·exact h3 z hz
  ·rw[List.mem_singleton.mp hz];exact hp
 ·rintro σ' H' ⟨s3,h3,hsg⟩
  rw[List.length_map,List.take_length]at h3
  exact hg h3 σ' hsg H' (s.trans (s2.trans s3)) D fun v H4 s4 r=>q v H4 (s2.trans (s3.trans s4)) r
end
end L2
namespace Jq
open PySem PySem.Spec PyProof.Rows L2
def yL(l:List Vbbhaj.Job)(t:Int×Int×Int):Bool:=match tX l t.1 with
 |some j=>(endOf j).isSome&&!zU t.2.1 t.2.2 (yN j.status) (JL j.status)
 |none=>false
def xm(l:List Vbbhaj.Job)(t:Int×Int×Int):Bool:=match tX l t.1 with
 |some j=>(endOf j).isNone
 |none=>false
section
variable {P:Program}{w:World}{K:PySem.W.Frag}{mg:Str→Option Value}{base:Heap}
variable {σ:St}{H:Hp}{ta tb tc td:TE}{a:Addr}{j:Vbbhaj.Job}{A:Ad}{s:Vbbhaj.State}{T:Txt K mg}
def gTs(T:Txt K mg)(f:Hp→List Vbbhaj.Job→List (Addr×Int×Int×Int)→V→Hp→Prop):GT:=fun vs H R=>∃d l L ps,vs=[.ref d,.ref l]∧H d=some (.dK (rC L))∧DK T H L∧cW (L.map (·.2))∧Bu H ps (.ref l)∧(∀p∈ps,∃q∈L,(q.2.num:Int)=p.2.1)∧ps.length≤8∧R=f H (L.map (·.2)) ps
theorem JS{L:List (Addr×Vbbhaj.Job)}(hs:cW (L.map (·.2))){q:Addr×Vbbhaj.Job}(hq:q∈L):tX (L.map (·.2)) (q.2.num:Int)=some q.2:=Jh hs (List.mem_map_of_mem (f:=(·.2)) hq)
theorem uV(T:Txt K mg):bG P w K mg base CX0 2 T.d9.f T.d9.fd ["jobs","tests"] (ro (gTs T fun _ l ps v _=>v=.bl (ps.any fun p=>yL l p.2))):=by
 refine cO T.d9.F gF (fun vs H R ⟨_,_,_,_,e,_⟩=>by rw[e];rfl) fun cdv A outer s H E hr=>?_
 have hu:=eF hr
 refine⟨_,(ak (tK PassesOwn.never rfl (cY (pv 1)) (Vn rfl (pU (bL (i:=2) gF.nd rfl (Or.inl rfl)) (pU (bL (i:=3) gF.nd rfl (Or.inl rfl)) (pU (bL (i:=4) gF.nd rfl (Or.inl rfl)) Qc)))) (ak (bu (i:=5) gF.nd rfl (Or.inl rfl) (cM (by exact hu) (pv 0) (pv 2) (fun _ _=>rfl)))
   (az (a_ (PW.pt (Jz (bJ (aK T.jo (yf T) (by exact hr.mono (by decide)) rfl (aj (pv 5) aq))) (Fi (cD (bJ (aK T.wY (Ys T) (by exact hr.mono (by decide)) rfl (aj (pv 3) (aj (pv 4) (aj (aD (K:=K) (pv 5) rfl) (aj (aD (K:=K) (pv 5) rfl) aq)))))))))) (az (aC kI)) aL))))
   (az (aC kI))),?_⟩
 rintro vs R ⟨d,l,L,ps,rfl,hd,hj,hs,ht,hin,hz,rfl⟩
 refine J9 (K:=K) (ps:=ps) (fun σ=>∃o2 o3 o4 o5,σ=[some (.ref d),some (.ref l),o2,o3,o4,o5]) (yL (L.map (·.2))) ⟨_,_,_,_,rfl⟩ (QB rfl ht wD) ?_ ?_
 ·rintro y hy σ' ⟨o2,o3,o4,o5,rfl⟩ H1 s1 D k1 k2
  obtain⟨q,hq,eq⟩:=hin y hy
  have jq:=(hj q hq).up s1
  have ef:yL (L.map (·.2)) y.2=((endOf q.2).isSome&&!zU y.2.2.1 y.2.2.2 (yN q.2.status) (JL q.2.status)):=by unfold yL;rw[← eq,JS hs hq]
  refine aN (iw (fH (v:=.ref q.1) (aa rfl) (aa rfl) (s1 _ _ hd) (by rw[← eq];exact zg hs hq)) fun H2 s2=>?_)
  have jq2:=jq.up s2
  dsimp only
  refine En (EvT.cast (Jg (fu (nW (aa rfl) jq2)) fun _=>cC (fu (Ev.cast (nH (G:=ad4) (aB (aa rfl) (aB (aa rfl) (aB (jL (aa rfl) jq2) (aB (Ng (aa rfl) jq2) aV)))) fun H3 s3=>⟨_,_,_,_,rfl,rfl⟩) rfl))) ef.symm) (fun e H3 s3=>?_) fun e H3 s3=>?_
  case refine_2=>exact k2 e _ _ ⟨_,_,_,_,rfl⟩ (s2.trans s3)
  exact k1 e _ _ (s2.trans s3) (by show V.bl true=_;congr 1;symm;exact List.any_eq_true.mpr ⟨y,hy,e⟩)
 ·rintro hg σ' ⟨o2,o3,o4,o5,rfl⟩
  refine aU (aJ.cast ?_)
  congr 1
  symm
  rw[List.any_eq_false]
  intro y hy
  rw[hg y hy]
  simp
theorem tZ(T:Txt K mg):bG P w K mg base CX0 2 T.dG.f T.dG.fd ["jobs","tests"] (ro (gTs T fun H l ps v H'=>Bu H' (ps.filter fun p=>xm l p.2) v∧∃d,v=.ref d∧H d=none)):=by
 refine cO T.dG.F mZ (fun vs H R ⟨_,_,_,_,e,_⟩=>by rw[e];rfl) fun cdv A outer s H E hr=>?_
 have hu:=eF hr
 refine⟨_,(az (aC (t7 (own:=[("test",2)]) rfl mZ.nd (cY (pv 1)) (cH (by show qF ["jobs","tests","test"] (aA iM) _ _=true;decide +kernel)) (fun _ _ _ _ _=>(bL (i:=2) mZ.nd rfl (Or.inl rfl))) (fun _ _ _ _ _=>(jD (cD (bJ (aK T.jo (yf T) (by exact hr.mono (by decide)) rfl (aj (cM (by exact hu) (pv 0) (cZ (bA (K:=K)) (pv 2) aH (fun _ _=>rfl)) (fun _ _=>rfl)) aq)))))) (fun _ _ _ _ _=>(pv 2))))),?_⟩
 rintro vs R ⟨d,l,L,ps,rfl,hd,hj,hs,ht,hin,hz,rfl⟩
 obtain⟨l',e,hl,hp⟩:=id ht
 cases e
 refine aU (EvP.imp (Z_ (K:=K) (k:=2) (ys:=ps) (fun p=>V.ref p.1) (fun p=>xm (L.map (·.2)) p.2) (fun p=>V.ref p.1) ((aa rfl).toL hl) (eZ (by omega)) (fun y hy=>?_) (fun y hy _=>aa rfl)) ?_)
 ·obtain⟨q,hq,eq⟩:=hin y hy
  have eo:xm (L.map (·.2)) y.2=!(endOf q.2).isSome:=by unfold xm;rw[← eq,JS hs hq];show(endOf q.2).isNone=_;cases endOf q.2<;>rfl
  rw[eo]
  exact cC (fu (nW (fH (v:=.ref q.1) (aa rfl) (Pb (aa rfl) (SqT.of (hp y hy)) aJ rfl) hd (by rw[← eq];exact zg hs hq)) (hj q hq)))
 ·rintro v H' s' ⟨l2,rfl,n2,hl2⟩
  exact⟨⟨l2,rfl,hl2,fun p hp'=>s' _ _ (hp p (List.mem_filter.mp hp').1)⟩,l2,rfl,n2⟩
def vz(l:List Vbbhaj.Job)(t:Int×Int×Int):Bool:=(tX l t.1).isSome
def lE(l:List Vbbhaj.Job)(ts:List (Int×Int×Int)):Int:=if (ts.any fun t=>!ju t)=true then -1 else if (ts.any fun t=>!vz l t)=true then -4 else if (ts.any fun t=>yL l t)=true then -7 else 0
def adU(T:Txt K mg):GT:=fun vs H R=>∃A s l ps,vs=[.ref A.b,.ref l]∧Rep T H A s∧Bu H ps (.ref l)∧ps.length≤8∧R=fun v _=>v=.int (lE s.jobs (ps.map (·.2)))
theorem zY(ps:List (Addr×Int×Int×Int))(f:Int×Int×Int→Bool):(ps.map (·.2)).any f=ps.any fun p=>f p.2:=by rw[List.any_map];rfl
theorem Jm{ps:List (Addr×Int×Int×Int)}{f:Int×Int×Int→Bool}(h:∀y∈ps,f y.2=false):(ps.map (·.2)).any f=false:=by
 rw[zY,List.any_eq_false]
 intro y hy
 rw[h y hy]
 simp
theorem WX{ps:List (Addr×Int×Int×Int)}{f:Int×Int×Int→Bool}{y:Addr×Int×Int×Int}(hy:y∈ps)(h:f y.2=true):(ps.map (·.2)).any f=true:=by
 rw[zY]
 exact List.any_eq_true.mpr ⟨y,hy,h⟩
theorem Bv(T:Txt K mg):bG P w K mg base CX0 3 T.fB.f T.fB.fd ["board","tests"] (ro (adU T)):=by
 refine cO T.fB.F dw (fun vs H R ⟨_,_,_,_,e,_⟩=>by rw[e];rfl) fun cdv A outer s H E hr=>?_
 have hu:=eF hr
 refine⟨_,(ak (tK PassesOwn.never rfl (cY (pv 1)) (Vn rfl (pU (bL (i:=2) dw.nd rfl (Or.inl rfl)) (pU (bL (i:=3) dw.nd rfl (Or.inl rfl)) (pU (bL (i:=4) dw.nd rfl (Or.inl rfl)) Qc)))) (az (a_ (cD (bJ (aK T.uA (Vk T) (by exact hr.mono (by decide)) rfl (aj (pv 2) (aj (pv 3) (aj (pv 4) aq)))))) (az (aC (bz T.bH rfl))) aL)))
   (ak (tK PassesOwn.never rfl (cY (pv 1)) (Vn rfl (pU (bL (i:=2) dw.nd rfl (Or.inl rfl)) (pU (bL (i:=3) dw.nd rfl (Or.inl rfl)) (pU (bL (i:=4) dw.nd rfl (Or.inl rfl)) Qc)))) (az (a_ (aap (NB (by exact hu) (pv 2) (aD (K:=K) (pv 0) rfl))) (az (aC (bz T.DY rfl))) aL)))
   (ak (a_ (bJ (aK T.d9 (uV T) (by exact hr.mono (by decide)) rfl (aj (aD (K:=K) (pv 0) rfl) (aj (pv 1) aq)))) (az (aC (bz T.v8 rfl))) aL)
   (az (aC (bz T.aW rfl)))))),?_⟩
 rintro vs R ⟨A,s,l,ps,rfl,h,ht,hz,rfl⟩
 refine J9 (K:=K) (ps:=ps) (fun σ=>∃o2 o3 o4,σ=[some (.ref A.b),some (.ref l),o2,o3,o4]) (fun t=>!ju t) ⟨_,_,_,rfl⟩ (QB rfl ht wD) ?_ ?_
 ·rintro y hy σ' ⟨o2,o3,o4,rfl⟩ H1 s1 D k1 k2
  refine En (cC (fu (Ev.cast (nH (G:=ace) (aB (aa rfl) (aB (aa rfl) (aB (aa rfl) aV))) fun H3 s3=>⟨_,_,_,rfl,rfl⟩) rfl))) (fun e H3 s3=>?_) fun e H3 s3=>k2 e _ _ ⟨_,_,_,rfl⟩ s3
  refine k1 e _ _ s3 ?_
  show V.int (-1)=_
  unfold lE
  rw[WX (f:=fun t=>!ju t) hy e,if_pos rfl]
 rintro g1 σ' ⟨o2,o3,o4,rfl⟩
 refine J9 (K:=K) (ps:=ps) (fun σ=>∃o2 o3 o4,σ=[some (.ref A.b),some (.ref l),o2,o3,o4]) (fun t=>!vz s.jobs t) ⟨_,_,_,rfl⟩ (QB rfl ht wD) ?_ ?_
 ·rintro y hy σ' ⟨o2,o3,o4,rfl⟩ H1 s1 D k1 k2
  refine En (fu ((Ol (aa rfl) (cA (aa rfl) (h.up s1)) (h.up s1).jobs).cast (w:=.bl (!vz s.jobs y.2)) (by rw[h.isSome];rfl))) (fun e H3 s3=>?_) fun e H3 s3=>k2 e _ _ ⟨_,_,_,rfl⟩ s3
  refine k1 e _ _ s3 ?_
  show V.int (-4)=_
  unfold lE
  rw[Jm (f:=fun t=>!ju t) g1,if_neg Bool.false_ne_true,WX (f:=fun t=>!vz s.jobs t) hy e,if_pos rfl]
 rintro g2 σ' ⟨o2,o3,o4,rfl⟩
 have hin:∀p∈ps,∃q∈A.L,(q.2.num:Int)=p.2.1:=fun p hp=>by
  have e:(tX s.jobs p.2.1).isSome=true:=nG (g2 p hp)
  obtain⟨j,ej⟩:=Option.isSome_iff_exists.mp e
  rw[← h.js]at ej
  obtain⟨a,m,en⟩:=Qz ej
  exact⟨(a,j),m,en⟩
 refine d7 (fu (Ev.cast (nH (G:=gTs T fun _ l ps v _=>v=.bl (ps.any fun p=>yL l p.2)) (aB (cA (aa (i:=0) rfl) h) (aB (aa (i:=1) (v:=.ref l) rfl) aV)) fun H1 s1=>⟨A.dj,l,A.L,ps,rfl,(h.up s1).jobs,(h.up s1).job,h.Mg,wD _ _ _ s1 ht,hin,hz,rfl⟩) (by rw[h.js]))) (fun q=>aU (aJ.cast ?_)) fun q=>aU (aJ.cast ?_)
 ·unfold lE
  rw[Jm (f:=fun t=>!ju t) g1,if_neg Bool.false_ne_true,Jm (f:=fun t=>!vz s.jobs t) g2,if_neg Bool.false_ne_true,zY,q,if_pos rfl]
 ·unfold lE
  rw[Jm (f:=fun t=>!ju t) g1,if_neg Bool.false_ne_true,Jm (f:=fun t=>!vz s.jobs t) g2,if_neg Bool.false_ne_true,zY,q,if_neg Bool.false_ne_true]
end
end Jq
end
section
set_option Elab.async false
set_option linter.all false
set_option maxRecDepth 100000
set_option maxHeartbeats 1000000
namespace Jq
open PySem PySem.Spec PyProof.Rows L2
def GQ(s:Vbbhaj.State)(n:Int):Int:=if fL s n=0 then (match Vbbhaj.jobAt s n with | some j=>if Vbbhaj.isWaiting j=true then 0 else -6 | none=>0)else fL s n
theorem yu{s:Vbbhaj.State}{n:Int}{f:Vbbhaj.Job→Vbbhaj.State×Vbbhaj.Ans}(h:GQ s n≠0):Vbbhaj.onWaiting s n f=(s,{num:=GQ s n}):=by
 unfold GQ at h ⊢
 have e:Vbbhaj.onWaiting s n f=Vbbhaj.onJob s n fun j=>if Vbbhaj.isWaiting j=true then f j else Vbbhaj.no s 6:=rfl
 rw[e]
 by_cases h1:fL s n=0
 ·rw[if_pos h1]at h ⊢
  obtain⟨j,ej,hf⟩:=qK h1
  rw[hf]
  simp only[ej]at h ⊢
  by_cases h2:Vbbhaj.isWaiting j=true
  ·rw[if_pos h2]at h;exact absurd rfl h
  ·rw[if_neg h2,if_neg h2];rfl
 ·rw[if_neg h1]
  exact yX h1
theorem v7{s:Vbbhaj.State}{n:Int}(h:GQ s n=0):∃j,Vbbhaj.jobAt s n=some j∧Vbbhaj.isWaiting j=true∧∀f:Vbbhaj.Job→Vbbhaj.State×Vbbhaj.Ans,Vbbhaj.onWaiting s n f=f j:=by
 unfold GQ at h
 by_cases h1:fL s n=0
 ·rw[if_pos h1]at h
  obtain⟨j,ej,hf⟩:=qK h1
  simp only[ej]at h
  by_cases h2:Vbbhaj.isWaiting j=true
  ·refine⟨j,ej,h2,fun f=>?_⟩
   have e:Vbbhaj.onWaiting s n f=Vbbhaj.onJob s n fun j=>if Vbbhaj.isWaiting j=true then f j else Vbbhaj.no s 6:=rfl
   rw[e,hf,if_pos h2]
  ·rw[if_neg h2]at h;exact absurd h (by decide)
 ·rw[if_neg h1]at h;exact absurd h h1
def pG(n:Int)(xs:List Int):Int:=if Vbbhaj.isInit n=false then -1 else if Vbbhaj.areClasses xs=false then -2 else 0
def uc(s:Vbbhaj.State)(n:Int):Int:=if Vbbhaj.isInit n=false then -1 else if (Vbbhaj.initAt s n).on=false then -3 else 0
def mq(s:Vbbhaj.State)(n:Int):Int:=if uc s n=0 then (if (Vbbhaj.initAt s n).job≠0 then -5 else 0)else uc s n
def pP(s:Vbbhaj.State)(n:Int):Int:=if Vbbhaj.isInit n=false then -1 else if (Vbbhaj.initAt s n).job=0 then -3 else 0
section
variable {P:Program}{w:World}{K:PySem.W.Frag}{mg:Str→Option Value}{base:Heap}
variable {σ:St}{H:Hp}{ta tb tc td:TE}{a:Addr}{j:Vbbhaj.Job}{A:Ad}{s:Vbbhaj.State}{T:Txt K mg}
def aaL(T:Txt K mg)(f:Vbbhaj.State→Int→Int):GT:=fun vs H R=>∃A s n,vs=[.ref A.b,.int n]∧Rep T H A s∧Inv s∧R=fun v _=>v=.int (f s n)
theorem ug{f:Vbbhaj.State→Int→Int}{n:Int}(ha:Ev ta σ H (.ref A.b))(hb:Ev tb σ H (.int n))(h:Rep T H A s)(iv:Inv s):Ev (fG (ro (aaL T f)) [] E0 (bw ta (bw tb eV))) σ H (.int (f s n)) :=
 nH (aB ha (aB hb aV)) fun H1 s1=>⟨A,s,n,rfl,h.up s1,iv,rfl⟩
theorem gR(T:Txt K mg):bG P w K mg base CX0 3 T.bO.f T.bO.fd ["board","number"] (ro (aaL T GQ)):=by
 refine cO T.bO.F mU (fun vs H R ⟨_,_,_,e,_⟩=>by rw[e];rfl) fun cdv A outer s H E hr=>?_
 have hu:=eF hr
 refine⟨_,(ak (bu (i:=2) mU.nd rfl (Or.inl rfl) (aK T.cR (g8 T) (by exact hr.mono (by decide)) rfl (aj (pv 0) (aj (pv 1) aq))))
   (ak (a_ (aR jr (pv 2) (bz T.aW rfl) (aQ _)) (az (aC (pv 2))) aL)
   (ak (a_ (aR jr (aD (K:=K) (cM (by exact hu) (aD (K:=K) (pv 0) rfl) (pv 1) (fun _ _=>rfl)) rfl) (bz T.mK rfl) (aQ _)) (az (aC (bz T.rM rfl))) aL)
   (az (aC (bz T.aW rfl)))))),?_⟩
 rintro vs R ⟨A,s,n,rfl,h,iv,rfl⟩
 refine pW (xx (aa rfl) (aa rfl) h) ?_
 refine d7 (aP (fM (aa rfl) aJ)) (fun q=>aU ((aa rfl).cast ?_)) fun q=>?_
 ·unfold GQ
  rw[if_neg (vm.mp (jl q))]
 have q:fL s n=0:=by simpa using q
 obtain⟨j,hj,hf⟩:=qK q
 obtain⟨a,m,e⟩:=h.pair hj
 refine d7 (aP ((fM (jL (h.get (cA (aa rfl) h) (aa rfl) m e) (h.job _ m)) aJ).cast (w:=.bl (!Vbbhaj.isWaiting j)) (by rw[Dy]))) (fun q2=>aU (aJ.cast ?_)) fun q2=>aU (aJ.cast ?_)
 ·unfold GQ
  rw[if_pos q,hj]
  show _=V.int (if Vbbhaj.isWaiting j=true then 0 else -6)
  rw[jl q2]
  rfl
 ·unfold GQ
  rw[if_pos q,hj]
  show _=V.int (if Vbbhaj.isWaiting j=true then 0 else -6)
  rw[nG q2]
  rfl
def Ld:GT:=fun vs H R=>∃n l xs,vs=[.int n,.ref l]∧H l=some (.lst (xs.map V.int))∧xs.length≤400∧R=fun v _=>v=.int (pG n xs)
theorem uW(T:Txt K mg):bG P w K mg base CX0 3 T.dZ.f T.dZ.fd ["number","classes"] (ro Ld):=by
 refine cO T.dZ.F Dd (fun vs H R ⟨_,_,_,e,_⟩=>by rw[e];rfl) fun cdv A outer s H E hr=>⟨_,(ak (a_ (cD (bJ (aK T.eE (n_ T) (by exact hr.mono (by decide)) rfl (aj (pv 0) aq)))) (az (aC (bz T.bH rfl))) aL)
   (ak (a_ (cD (bJ (aK T.gZ (GZ T) (by exact hr.mono (by decide)) rfl (aj (pv 1) aq)))) (az (aC (bz T.yg rfl))) aL)
   (az (aC (bz T.aW rfl))))),?_⟩
 rintro vs R ⟨n,l,xs,rfl,h,hz,rfl⟩
 refine d7 (cC (fu (iV (aa rfl)))) (fun q=>aU (aJ.cast ?_)) fun q=>?_
 ·unfold pG
  rw[if_pos (show Vbbhaj.isInit n=false from jl q)]
 have q1:Vbbhaj.isInit n=true:=nG q
 refine d7 (cC (fu (QD ((aa rfl).toL h) hz))) (fun q=>aU (aJ.cast ?_)) fun q=>aU (aJ.cast ?_)
 ·unfold pG
  rw[if_neg (nF q1),if_pos (jl q)]
 ·unfold pG
  rw[if_neg (nF q1),if_neg (nF (nG q))]
theorem sJ(T:Txt K mg):bG P w K mg base CX0 2 T.du.f T.du.fd ["board","number"] (ro (aaL T uc)):=by
 refine cO T.du.F Ai (fun vs H R ⟨_,_,_,e,_⟩=>by rw[e];rfl) fun cdv A outer s H E hr=>?_
 have hu:=eF hr
 refine⟨_,(ak (a_ (cD (bJ (aK T.eE (n_ T) (by exact hr.mono (by decide)) rfl (aj (pv 1) aq)))) (az (aC (bz T.bH rfl))) aL)
   (ak (a_ (cD (bJ (aD (K:=K) (cM (by exact hu) (aD (K:=K) (pv 0) rfl) (pv 1) (fun _ _=>rfl)) rfl))) (az (aC (bz T.lq rfl))) aL)
   (az (aC (bz T.aW rfl))))),?_⟩
 rintro vs R ⟨A,s,n,rfl,h,iv,rfl⟩
 refine d7 (cC (fu (iV (aa rfl)))) (fun q=>aU (aJ.cast ?_)) fun q=>?_
 ·unfold uc
  rw[if_pos (show Vbbhaj.isInit n=false from jl q)]
 have q1:Vbbhaj.isInit n=true:=nG q
 obtain⟨a,i1,i2,i3⟩:=iW h iv.g q1
 refine d7 (cC (fu (Il (fH (bU (aa rfl) h) (aa rfl) h.ini i2) i3))) (fun q=>aU (aJ.cast ?_)) fun q=>aU (aJ.cast ?_)
 ·unfold uc
  rw[if_neg (nF q1),if_pos (jl q)]
 ·unfold uc
  rw[if_neg (nF q1),if_neg (nF (nG q))]
theorem qm(T:Txt K mg):bG P w K mg base CX0 3 T.cX.f T.cX.fd ["board","number"] (ro (aaL T mq)):=by
 refine cO T.cX.F p_ (fun vs H R ⟨_,_,_,e,_⟩=>by rw[e];rfl) fun cdv A outer s H E hr=>?_
 have hu:=eF hr
 refine⟨_,(ak (bu (i:=2) p_.nd rfl (Or.inl rfl) (aK T.du (sJ T) (by exact hr.mono (by decide)) rfl (aj (pv 0) (aj (pv 1) aq))))
   (ak (a_ (aR jr (pv 2) (bz T.aW rfl) (aQ _)) (az (aC (pv 2))) aL)
   (ak (a_ (aR jr (aD (K:=K) (cM (by exact hu) (aD (K:=K) (pv 0) rfl) (pv 1) (fun _ _=>rfl)) rfl) aH (aQ _)) (az (aC (bz T.jG rfl))) aL)
   (az (aC (bz T.aW rfl)))))),?_⟩
 rintro vs R ⟨A,s,n,rfl,h,iv,rfl⟩
 refine pW (ug (aa rfl) (aa rfl) h iv) ?_
 refine d7 (aP (fM (aa rfl) aJ)) (fun q=>aU ((aa rfl).cast ?_)) fun q=>?_
 ·unfold mq
  rw[if_neg (by simpa using jl q)]
 have q:uc s n=0:=by simpa using q
 have q1:Vbbhaj.isInit n=true:=by
  unfold uc at q
  cases e:Vbbhaj.isInit n with
  |true=>rfl
  |false=>rw[if_pos e]at q;exact absurd q (by decide)
 obtain⟨a,i1,i2,i3⟩:=iW h iv.g q1
 refine d7 (aP (fM (lW (fH (bU (aa rfl) h) (aa rfl) h.ini i2) i3) aJ)) (fun q2=>aU (aJ.cast ?_)) fun q2=>aU (aJ.cast ?_)
 ·unfold mq
  rw[if_pos q,if_pos (by have:=jl q2;simp at this;exact this)]
 ·unfold mq
  rw[if_pos q,if_neg (by simpa using q2)]
theorem pK(T:Txt K mg):bG P w K mg base CX0 2 T.cV.f T.cV.fd ["board","number"] (ro (aaL T pP)):=by
 refine cO T.cV.F yz (fun vs H R ⟨_,_,_,e,_⟩=>by rw[e];rfl) fun cdv A outer s H E hr=>?_
 have hu:=eF hr
 refine⟨_,(ak (a_ (cD (bJ (aK T.eE (n_ T) (by exact hr.mono (by decide)) rfl (aj (pv 1) aq)))) (az (aC (bz T.bH rfl))) aL)
   (ak (a_ (aR dm (aD (K:=K) (cM (by exact hu) (aD (K:=K) (pv 0) rfl) (pv 1) (fun _ _=>rfl)) rfl) aH (aQ _)) (az (aC (bz T.lq rfl))) aL)
   (az (aC (bz T.aW rfl))))),?_⟩
 rintro vs R ⟨A,s,n,rfl,h,iv,rfl⟩
 refine d7 (cC (fu (iV (aa rfl)))) (fun q=>aU (aJ.cast ?_)) fun q=>?_
 ·unfold pP
  rw[if_pos (show Vbbhaj.isInit n=false from jl q)]
 have q1:Vbbhaj.isInit n=true:=nG q
 obtain⟨a,i1,i2,i3⟩:=iW h iv.g q1
 refine d7 (aP (bY (lW (fH (bU (aa rfl) h) (aa rfl) h.ini i2) i3) aJ)) (fun q2=>aU (aJ.cast ?_)) fun q2=>aU (aJ.cast ?_)
 ·unfold pP
  rw[if_neg (nF q1),if_pos (by simpa using q2)]
 ·unfold pP
  rw[if_neg (nF q1),if_neg (by simpa using q2)]
def full(s:Vbbhaj.State):Bool:=decide ((s.cap:Int)≤(s.jobs.length:Int))||decide ((999999:Int)≤(s.next:Int) - 1)
def acj(T:Txt K mg):GT:=fun vs H R=>∃A s,vs=[.ref A.b]∧Rep T H A s∧R=fun v _=>v=.bl (full s)
theorem Wd(T:Txt K mg):bG P w K mg base CX0 1 T.uD.f T.uD.fd ["board"] (ro (acj T)):=by
 refine cO T.uD.F Vl (fun vs H R ⟨_,_,e,_⟩=>by rw[e];rfl) fun cdv A outer s H E hr=>⟨_,(az (aC (ab4 (fK Xb (bR Nr rfl T.iT gh (aj (aD (K:=K) (pv 0) rfl) aq)) (aD (K:=K) (pv 0) rfl) (aQ _)) (wj (fK Xb (aD (K:=K) (pv 0) rfl) (bz T.xU rfl) (aQ _)))))),?_⟩
 rintro vs R ⟨A,s,rfl,h,rfl⟩
 have e1:(rC A.L).length=s.jobs.length:=by rw[← h.js];unfold rC;rw[List.length_map,List.length_map]
 exact aU ((aco (eY ((Wy (cA (aa rfl) h) h.jobs).cast (w:=.int (s.jobs.length:Nat)) (by rw[e1])) (Z4 (aa rfl) h)) fun _=>eY (xu (aa rfl) h) aJ).cast rfl)
def trips(ts:List Int):List (Int×Int×Int):=(List.range (ts.length / 3)).map (wJ ts)
def mV(s:Vbbhaj.State)(c p h:Int)(xs ts:List Int):Int :=
 if (!Vbbhaj.isClass c||(!Vbbhaj.inside p 0 15||!Vbbhaj.inside h 0 1))=true then -1 else if (!nm xs||!qD ts)=true then -2
 else if lE s.jobs (trips ts)=0 then (if full s=true then -8 else 0)else lE s.jobs (trips ts)
def WD(T:Txt K mg):GT:=fun vs H R=>∃A s c p h nl rl xs ts,vs=[.ref A.b,.int c,.int p,.int h,.ref nl,.ref rl]∧Rep T H A s∧H nl=some (.lst (xs.map V.int))∧xs.length≤100000∧H rl=some (.lst (ts.map V.int))∧ts.length≤400∧R=fun v _=>v=.int (mV s c p h xs ts)
theorem Wv{ts:List Int}(h:qD ts=true):ts.length=3 * (ts.length / 3)∧ts.length / 3≤8:=by
 unfold qD at h
 simp only[Bool.and_eq_true,decide_eq_true_eq]at h
 omega
theorem Ak(T:Txt K mg):bG P w K mg base CX0 4 T.eQ.f T.eQ.fd ["board","class_of","priority","held","name","row"] (ro (WD T)):=by
 refine cO T.eQ.F sE (fun vs H R ⟨_,_,_,_,_,_,_,_,_,e,_⟩=>by rw[e];rfl) fun cdv A outer s H E hr=>?_
 have hu:=eF hr
 refine⟨_,(ak (a_ (PW.pt (Hm (cD (bJ (aK T.fW (lK T) (by exact hr.mono (by decide)) rfl (aj (pv 1) aq)))) (Hm (cD (bJ (aK T.iD (Af T) (by exact hr.mono (by decide)) rfl (aj (pv 2) aq)))) (Gj (cD (bJ (aK T.gH (yM T) (by exact hr.mono (by decide)) rfl (aj (pv 3) aq)))))))) (az (aC (bz T.bH rfl))) aL)
   (ak (a_ (PW.pt (Hm (cD (bJ (aK T.uC (T_ T) (by exact hr.mono (by decide)) rfl (aj (pv 4) aq)))) (Gj (cD (bJ (aK T.fU (De T) (by exact hr.mono (by decide)) rfl (aj (pv 5) aq))))))) (az (aC (bz T.yg rfl))) aL)
   (ak (bu (i:=6) sE.nd rfl (Or.inl rfl) (aK T.fB (Bv T) (by exact hr.mono (by decide)) rfl (aj (pv 0) (aj (aK T.iI (zO T) (by exact hr.mono (by decide)) rfl (aj (pv 5) aq)) aq))))
   (ak (a_ (aR jr (pv 6) (bz T.aW rfl) (aQ _)) (az (aC (pv 6))) aL)
   (ak (a_ (bJ (aK T.uD (Wd T) (by exact hr.mono (by decide)) rfl (aj (pv 0) aq))) (az (aC (bz T.Bk rfl))) aL)
   (az (aC (bz T.aW rfl)))))))),?_⟩
 rintro vs R ⟨A,s,c,p,h,nl,rl,xs,ts,rfl,hb,hn,hnz,hrw,hrz,rfl⟩
 refine d7 (Hy (cC (fu (iV (aa rfl)))) fun _=>Hy (cC (fu (iV (aa rfl)))) fun _=>cC (fu (iV (aa rfl)))) (fun q=>aU (aJ.cast ?_)) fun q=>?_
 ·unfold mV
  rw[if_pos (show(!Vbbhaj.isClass c||(!Vbbhaj.inside p 0 15||!Vbbhaj.inside h 0 1))=true from q)]
 refine d7 (Hy (cC (fu (QD ((aa rfl).toL hn) hnz))) fun _=>cC (fu (QD ((aa rfl).toL hrw) (by omega)))) (fun q2=>aU (aJ.cast ?_)) fun q2=>?_
 ·unfold mV
  rw[if_neg (by rw[show(!Vbbhaj.isClass c||(!Vbbhaj.inside p 0 15||!Vbbhaj.inside h 0 1))=false from q];exact Bool.false_ne_true),if_pos q2]
 have q0:¬(!Vbbhaj.isClass c||(!Vbbhaj.inside p 0 15||!Vbbhaj.inside h 0 1))=true:=by rw[show(!Vbbhaj.isClass c||(!Vbbhaj.inside p 0 15||!Vbbhaj.inside h 0 1))=false from q];exact Bool.false_ne_true
 have q3:¬(!nm xs||!qD ts)=true:=by rw[q2];exact Bool.false_ne_true
 have q4:qD ts=true:=by cases e:qD ts<;>simp_all
 obtain⟨n1,n2⟩:=Wv q4
 have sp:EvP _ (start ["board","class_of","priority","held","name","row","refusal"] [V.ref A.b,.int c,.int p,.int h,.ref nl,.ref rl]) H (fun v H'=>∃ps,ps.map (·.2)=trips ts∧Bu H' ps v) :=
  Vx (G:=Pj) (aB (aa (i:=5) (v:=.ref rl) rfl) aV) fun H1 s1=>⟨_,⟨rl,ts,ts.length / 3,rfl,s1 _ _ hrw,n1,n2,rfl⟩,fun v H' ⟨ps,e1,e2,_⟩=>⟨ps,e1,e2⟩⟩
 refine pW (v:=.int (lE s.jobs (trips ts))) (O1 (Lp (aa rfl) sp (fun v H1 H2 s1 ⟨ps,e1,e2⟩=>⟨ps,e1,wD _ _ _ s1 e2⟩)) fun vs H1 s1 ⟨v,e,ps,e1,e2⟩=>?_) ?_
 ·obtain⟨l,rfl,_⟩:=id e2
  refine⟨A,s,l,ps,e,hb.up s1,e2,?_,by rw[e1]⟩
  have:=congrArg List.length e1
  unfold trips at this
  rw[List.length_map,List.length_map,List.length_range]at this
  omega
 refine d7 (aP (fM (aa rfl) aJ)) (fun q=>aU ((aa rfl).cast ?_)) fun q=>?_
 ·unfold mV
  rw[if_neg q0,if_neg q3,if_neg (by simpa using jl q)]
 have q5:lE s.jobs (trips ts)=0:=by simpa using q
 refine d7 (fu (Ev.cast (nH (G:=acj T) (aB (aa rfl) aV) fun H1 s1=>⟨A,s,rfl,hb.up s1,rfl⟩) rfl)) (fun q=>aU (aJ.cast ?_)) fun q=>aU (aJ.cast ?_)
 ·unfold mV
  rw[if_neg q0,if_neg q3,if_pos q5,if_pos q]
 ·unfold mV
  rw[if_neg q0,if_neg q3,if_pos q5,if_neg (by rw[q];exact Bool.false_ne_true)]
end
end Jq
end
section
set_option Elab.async false
set_option linter.all false
set_option maxRecDepth 100000
set_option maxHeartbeats 1000000
namespace Jq
open PySem PySem.Spec PyProof.Rows L2
section
variable {P:Program}{w:World}{K:PySem.W.Frag}{mg:Str→Option Value}{base:Heap}
variable {σ:St}{H:Hp}{ta tb tc td:TE}{a:Addr}{j:Vbbhaj.Job}{A:Ad}{s:Vbbhaj.State}{T:Txt K mg}
def lets(s:Vbbhaj.State)(c:Nat):Bool:=!(Vbbhaj.classAt s c).closed&&decide (Vbbhaj.runningIn s c<(Vbbhaj.classAt s c).limit)
def ab9(T:Txt K mg):GT:=fun vs H R=>∃A s c l,vs=[.ref A.b,.int c,.ref l]∧Rep T H A s∧Inv s∧Vbbhaj.isClass c=true∧H l=some (.lst (refs (A.L.filter fun q=>Vbbhaj.isRunning q.2)))∧R=fun v _=>v=.bl (lets s c.toNat)
theorem yZ(T:Txt K mg):bG P w K mg base CX0 2 T.eU.f T.eU.fd ["board","class_of","running"] (ro (ab9 T)):=by
 refine cO T.eU.F zP (fun vs H R ⟨_,_,_,_,e,_⟩=>by rw[e];rfl) fun cdv A outer s H E hr=>?_
 have hu:=eF hr
 refine⟨_,(az (aC (vU (Zb (cM (by exact hu) (aD (K:=K) (pv 0) rfl) (pv 1) (fun _ _=>rfl))) (wj (fK adH (aK T.cz (ie T) (by exact hr.mono (by decide)) rfl (aj (pv 2) (aj (pv 1) aq))) (cM (by exact hu) (aD (K:=K) (pv 0) rfl) (pv 1) (fun _ _=>rfl)) (aQ _)))))),?_⟩
 rintro vs R ⟨A,s,c,l,rfl,h,iv,hc,hl,rfl⟩
 refine aU ((vN (aar (fH (vJ (aa rfl) h) (aa rfl) h.clo (h.closed iv.g hc))) fun _=>eY ((Ed ((aa rfl).toL hl) (h.v9 _) (h.Js _) (aa rfl)).cast (w:=.int (Vbbhaj.runningIn s c.toNat)) (by rw[QF h.js _ hc];rfl)) (fH (Ac (aa rfl) h) (aa rfl) h.lim (h.limit iv.g hc))).cast ?_)
 show V.bl (_&&_)=V.bl (lets s c.toNat)
 unfold lets
 congr 2
 rw[Bool.eq_iff_iff]
 simp
def nameOf(H:Hp)(a:Addr):Addr:=match H a with
 |some (.ins _ _ fs)=>(match fs.lookup ("name" : Str)with
  |some (.ref n)=>n
  |_=>0)
 |_=>0
theorem Di(h:cT T H a j):KR H (nameOf H a) j.name∧∀{ta:TE} {σ:St},Ev ta σ H (.ref a)→Ev (j4 K ta "name") σ H (.ref (nameOf H a)):=by
 obtain⟨dx,na,tt,e,n,t⟩:=h
 have q:nameOf H a=na:=by
  unfold nameOf
  rw[e]
  show(match (jv j na tt).fs.lookup ("name" : Str)with | some (.ref n)=>n | _=>0)=na
  rw[JV.Uj]
  rfl
 rw[q]
 exact⟨n,fun ha=>b_ ha e T.bQ T.uI (JV.Uj _)⟩
def bInts(b:Vbbhaj.Bytes):List Int:=b.map fun c=>(c.toNat:Int)
theorem W6(b:Vbbhaj.Bytes):(b.map fun c=>V.int c.toNat)=(bInts b).map V.int:=by unfold bInts;rw[List.map_map];rfl
theorem Nf:∀{a b:Vbbhaj.Bytes},bInts a=bInts b→a=b
 |[],[],_=>rfl
 |[],_::_,h=>by cases h
 |_::_,[],h=>by cases h
 |x::a,y::b,h=>by
  have h1:(x.toNat:Int)=y.toNat:=(List.cons.inj h).1
  have h2:x=y:=UInt8.toNat_inj.mp (by omega)
  rw[h2,Nf (List.cons.inj h).2]
theorem abn{c:Nat}{l:List Nat}:inV (.int c) (l.map fun n:Nat=>V.int n)=l.contains c:=by
 unfold inV
 rw[List.any_map]
 rw[List.contains_eq_any_beq]
 congr 1
 funext x
 show((x:Int)==(c:Int))=(c==x)
 rw[Bool.eq_iff_iff]
 simp
 omega
def Wk(T:Txt K mg):GT:=fun vs H R=>∃A s a x,vs=[.ref A.b,.ref a]∧Rep T H A s∧Inv s∧nT T H a x∧(∀c∈x.classes,Vbbhaj.isClass (c:Int)=true)∧x.classes.length≤8∧R=IsL (refs (A.L.filter fun q=>Vbbhaj.free s x q.2))
theorem free_eq{s:Vbbhaj.State}{x:Vbbhaj.Init}{j:Vbbhaj.Job}:(Vbbhaj.ready j&&((x.classes.filter (lets s)).contains j.cls&&!((s.jobs.filter Vbbhaj.isRunning).any fun k=>decide (bInts k.name=bInts j.name))))=Vbbhaj.free s x j:=by
 unfold Vbbhaj.free
 congr 1
 have e1:((s.jobs.filter Vbbhaj.isRunning).any fun k=>decide (bInts k.name=bInts j.name))=s.jobs.any fun k=>Vbbhaj.isRunning k&&k.name==j.name:=by
  rw[List.any_filter]
  congr 1
  funext k
  congr 1
  rw[Bool.eq_iff_iff]
  simp
  exact⟨Nf,fun e=>by rw[e]⟩
 rw[e1]
 have e2:(x.classes.filter (lets s)).contains j.cls=(x.classes.contains j.cls&&lets s j.cls):=by
  rw[Bool.eq_iff_iff]
  simp[List.mem_filter]
 rw[e2]
 unfold lets
 cases x.classes.contains j.cls<;>cases (Vbbhaj.classAt s j.cls).closed<;>simp
theorem Ez(T:Txt K mg):bG P w K mg base CX0 3 T.lA.f T.lA.fd ["board","initiator"] (ro (Wk T)):=by
 refine cO T.lA.F dC (fun vs H R ⟨_,_,_,_,e,_⟩=>by rw[e];rfl) fun cdv A outer s H E hr=>?_
 have hu:=eF hr
 have hu65:=abE hr
 refine⟨_,(ak (bu (i:=2) dC.nd rfl (Or.inr rfl) (aK T.dW (nU T) (by exact hr.mono (by decide)) rfl (aj (pv 0) aq)))
   (ak (bu (i:=3) dC.nd rfl (Or.inr rfl) (t7 (own:=[("class_of",6)]) rfl dC.nd (cY (aD (K:=K) (pv 1) rfl)) (cH (by show qF ["board","initiator","running","classes","names","ready","class_of","job"] (aA jC) _ _=true;decide +kernel)) (fun _ _ _ _ _=>(bL (i:=6) dC.nd rfl (Or.inl rfl))) (fun _ _ _ _ _=>(jD (bJ (aK T.eU (yZ T) (by exact hr.mono (by decide)) rfl (aj (pv 0) (aj (pv 6) (aj (pv 2) aq))))))) (fun _ _ _ _ _=>(pv 6))))
   (ak (bu (i:=4) dC.nd rfl (Or.inr rfl) (t7 (own:=[("job",7)]) rfl dC.nd (cY (pv 2)) (cH (by show qF ["board","initiator","running","classes","names","ready","class_of","job"] (aA jC) _ _=true;decide +kernel)) (fun _ _ _ _ _=>(bL (i:=7) dC.nd rfl (Or.inl rfl))) (fun _ _ _ _ _=>yh) (fun _ _ _ _ _=>(aD (K:=K) (pv 7) rfl))))
   (ak (xH (i:=5) (own:=[("job",7)]) rfl dC.nd rfl rfl (Bj rfl rfl rfl (by decide +kernel)) (cY (aK T.gG (pB T) (by exact hr.mono (by decide)) rfl (aj (pv 0) aq))) (cH (by show qF ["board","initiator","running","classes","names","ready","class_of","job"] (aA jC) _ _=true;decide +kernel)) (fun _ _ _ _ _=>(bL (i:=7) dC.nd rfl (Or.inl rfl))) (fun _ _ _ _ _=>(jD (bJ (aK T.lD (Ah T) (by exact hr.mono (by decide)) rfl (aj (pv 7) aq))))) (fun _ _ _ _ _=>(pv 7)))
   (az (aC (t7 (own:=[("job",7)]) rfl dC.nd (cY (pv 5)) (cH (by show qF ["board","initiator","running","classes","names","ready","class_of","job"] (aA jC) _ _=true;decide +kernel)) (fun _ _ _ _ _=>(bL (i:=7) dC.nd rfl (Or.inl rfl))) (fun _ _ _ _ _=>(jD (PW.pt (Jz (aR (Uc (K:=K)) (aD (K:=K) (pv 7) rfl) (pv 3) (by with_unfolding_all rfl)) (Fi (aR (MF (by exact hu65)) (aD (K:=K) (pv 7) rfl) (pv 4) (by with_unfolding_all rfl))))))) (fun _ _ _ _ _=>(pv 7))))))))),?_⟩
 rintro vs R ⟨A,s,a,x,rfl,h,iv,hx,hc,few,rfl⟩
 refine DN (uh (aa rfl) h) ?_
 rintro v H1 s1 ⟨l1,rfl,hl1⟩
 have h1:=h.up s1
 refine DN (jZ (K:=K) (k:=6) (ys:=x.classes) (fun c:Nat=>V.int c) (lets s) (fun c:Nat=>V.int c) (ym (aa rfl) (hx.up s1)) (eZ (by omega)) (fun c hcm=>?_) (fun y hy _=>aa rfl)) ?_
 ·exact fu (Ev.cast (nH (G:=ab9 T) (aB (aa rfl) (aB (aa rfl) (aB (aa (v:=.ref l1) rfl) aV))) fun H2 s2=>⟨A,s,(c:Int),l1,rfl,h1.up s2,iv,hc c hcm,s2 _ _ hl1,rfl⟩) rfl)
 rintro v H2 s2 ⟨l2,rfl,hl2⟩
 have h2:=h1.up s2
 refine DN (jZ (K:=K) (k:=7) (ys:=A.L.filter fun q=>Vbbhaj.isRunning q.2) (fun p=>V.ref p.1) (fun _=>true) (fun p=>V.ref (nameOf H2 p.1)) ((aa rfl).toL (s2 _ _ hl1)) (eZ (h.Js _)) (fun y hy=>PQ) (fun y hy _=>(Di (h2.v9 _ y hy)).2 (aa rfl))) ?_
 rintro v H3 s3 ⟨l3,rfl,hl3⟩
 have h3:=h2.up s3
 rw[filter_true']at hl3
 refine DN (jZ (K:=K) (k:=7) (ys:=A.L) (fun p=>V.ref p.1) (fun p=>Vbbhaj.ready p.2) (fun p=>V.ref p.1) (Hd (aa rfl) h3) (eZ h.PN) (fun y hy=>fu (nW (aa rfl) (h3.job y hy))) (fun y hy _=>aa rfl)) ?_
 rintro v H4 s4 ⟨l4,rfl,hl4⟩
 have h4:=h3.up s4
 have cl:H4 l2=some (.lst ((x.classes.filter (lets s)).map fun c:Nat=>V.int c)):=s4 _ _ (s3 _ _ hl2)
 refine aU (EvL.cast (jZ (K:=K) (k:=7) (ys:=A.L.filter fun q=>Vbbhaj.ready q.2) (fun p=>V.ref p.1) (fun p=>(x.classes.filter (lets s)).contains p.2.cls&&!((s.jobs.filter Vbbhaj.isRunning).any fun k=>decide (bInts k.name=bInts p.2.name))) (fun p=>V.ref p.1) ((aa rfl).toL hl4) (eZ (h.Js _)) (fun y hy=>?_) (fun y hy _=>aa rfl)) ?_)
 ·have jy:=h4.v9 _ y hy
  have nj:=Di jy
  refine Jg (aP ((adL (nu (aa rfl) jy) ((aa rfl).toL cl) rfl ?_).cast (by rw[abn]))) fun _=>aP ?_
  ·rw[List.all_map]
   simp[tY]
  ·have hn:H4 (nameOf H4 y.1)=some (.lst ((bInts y.2.name).map V.int)):=by rw[← W6];exact nj.1
   refine Om (nj.2 (aa rfl)) (aa (v:=.ref l3) rfl) fun H5 Q s5 kk=>⟨nameOf H4 y.1,l3,bInts y.2.name,(A.L.filter fun q=>Vbbhaj.isRunning q.2).map fun p=>(nameOf H2 p.1,bInts p.2.name),rfl,rfl,s5 _ _ hn,?_,?_,?_⟩
   ·rw[List.map_map]
    exact s5 _ _ (s4 _ _ hl3)
   ·intro r hr
    obtain⟨p,hp,rfl⟩:=List.mem_map.mp hr
    have:=(Di (h2.v9 _ p hp)).1
    have this:H2 (nameOf H2 p.1)=some (.lst ((bInts p.2.name).map V.int)):=by rw[← W6];exact this
    exact s5 _ _ (s4 _ _ (s3 _ _ this))
   ·refine kk _ H5 (aY.refl _) ?_
    congr 2
    rw[List.any_map,← h.js,List.filter_map,List.any_map]
    rfl
 ·rw[List.filter_filter]
  unfold refs
  congr 1
  refine List.filter_congr fun p _=>?_
  rw[Bool.and_comm]
  exact free_eq
end
end Jq
end
section
set_option Elab.async false
set_option linter.all false
set_option maxRecDepth 100000
set_option maxHeartbeats 1000000
namespace Jq
open PySem PySem.Spec PyProof.Rows L2
section
variable {σ:St}{H:Hp}{sp:Sp}{u:TA}{D:Ends}{vs:List V}
theorem w_call{Q:VK}(ha:Bt u σ H vs)(k:∀H',aY H H'→sp vs H' Q E0):fG sp [] E0 u σ H Q:=ha H (aY.refl _) _ fun us H' s e=>by
 subst e
 show sp (us++[]) H' Q E0
 rw[List.append_nil]
 exact k H' s
theorem cU{c:TT}{t r:TS}{b:Bool}(h:EvT c σ H b)(k1:b=true→∀H',aY H H'→t {D with nx:=r D} σ H')(k2:b=false→∀H',aY H H'→r D σ H'):m6 (Xf c t RC) r D σ H:=h H (aY.refl _) _ fun H' s=>by
 cases b with
 |true=>exact Ib (k1 rfl H' s)
 |false=>exact HS (k2 rfl H' s)
theorem o7(ha:Bt u σ H vs)(k:∀H',aY H H'→sp vs H' (fun _ H1=>D.nx σ H1) E0):Od (fG sp [] E0 u) D σ H:=w_call ha k
theorem Gm{i:Nat}(ha:Bt u σ H vs)(k:∀H',aY H H'→sp vs H' (fun v H1=>D.nx (σ.set i (some v)) H1) E0):Va (fG sp [] E0 u) (uL i) D σ H:=w_call ha k
theorem mF(ha:Bt u σ H vs)(k:∀H',aY H H'→sp vs H' D.rt E0):JT (fG sp [] E0 u) D σ H:=w_call ha k
theorem yo{xs:List V}(h:Bt u σ H xs)(hl:xs.length≤sizeLine):EvP (Y7 u) σ H (IsN H xs):=fun H1 s Q k =>
 h H1 s _ fun us H2 s2 e=>by
  subst e
  exact⟨hl,fun p hp=>k _ _ (fun b o q=>by rw[aO (bj (s2 _ _ q) hp)];exact s2 _ _ q) ⟨p,rfl,(s.trans s2).free hp,aX⟩⟩
theorem Ht{ta:TE}{a:Addr}{kvs:List (Key×V)}{ns:List Int}(ha:Ev ta σ H (.ref a))(e:H a=some (.dK kvs))(hk:kvs.map (·.1)=ns.map (Sum.inl:Int→Key))(hs:ns.Pairwise (·<·)):EvP (tCB Wb (bw ta eV)) σ H (IsN H (ns.map V.int)):=fun H1 s Q k =>
 ha H1 s _ fun x' H2 s2 q=>⟨a,kvs,ns,by rw[q],s2 _ _ (s _ _ e),hk,fun ns' p h1 h2 hp=>by
  rw[Gq h1 hs h2]
  exact k _ _ (s2.trans (ji hp)) ⟨p,rfl,(s.trans s2).free hp,aX⟩⟩
theorem YQ{ta:TE}{a:Addr}{kvs:List (Key×V)}{ns:List Int}(ha:Ev ta σ H (.ref a))(e:H a=some (.dK kvs))(hk:kvs.map (·.1)=ns.map (Sum.inl:Int→Key)):EvP (tCB aat (bw ta eV)) σ H (IsN H (ns.map V.int)):=fun H1 s Q k =>
 ha H1 s _ fun x' H2 s2 q=>⟨a,kvs,ns,by rw[q],s2 _ _ (s _ _ e),hk,fun p hp=>k _ _ (s2.trans (ji hp)) ⟨p,rfl,(s.trans s2).free hp,aX⟩⟩
theorem Tg{K:PySem.W.Frag}{tl:TE}{g:TG}{tb:TS}{xs:List V}{R:V→Hp→Prop}(hl:EvP tl σ H R)(hR:∀v H',R v H'→IsL xs v H')
  (k:∀l H1,aY H H1→R (.ref l) H1→H1 l=some (.lst xs)→∃Pv:Nat→St→Hp→Prop,Pv 0 σ H1∧(∀i σ' H',i≤xs.length→Pv i σ' H'→H' l=some (.lst xs)) ∧
   (∀i x σ' H',xs[i]?=some x→Pv i σ' H'→g x σ' H' fun σ2 H2=>tb {D with nx:=Pv (i+1),ct:=Pv (i+1),bk:=D.nx} σ2 H2)∧∀σ' H',Pv xs.length σ' H'→D.nx σ' H'):aab (Oc K tl) g tb D σ H :=
 hl H (aY.refl _) _ fun v H1 s1 r=>by
  obtain⟨l,e,hl1⟩:=hR v H1 r
  subst e
  obtain⟨Pv,k0,k1,k2,k3⟩:=k l H1 s1 r hl1
  exact⟨l,rfl,⟨_,SqL.of hl1⟩,JZ (K:=K) (a:=l) (xs:=xs) Pv k0 (fun i σ' H' hi p=>SqL.of (k1 i σ' H' hi p)) k2 k3⟩
theorem adM{td ty:TE}{d:Addr}{kvs:List (Key×V)}{n:Int}{v:V}(ha:Ev td σ H (.ref d))(hb:Ev ty σ H (.int n))(e:H d=some (.dK kvs))(q:j_ kvs (Sum.inl n)=some v)
  (k:∀H',Kp d H H'→H' d=some (.dK (BW kvs (Sum.inl n)))→D.nx σ H'):Od (ZL td ty) D σ H :=
 Ev.use ha fun H1 s1=>⟨d,rfl,.inl ⟨kvs,.inl (s1 _ _ e)⟩,Ev.use (hb.up s1) fun H2 s2=>⟨kvs,Sum.inl n,v,s2 _ _ (s1 _ _ e),rfl,q,k _ (((s1.trans s2).kp d).trans (Kp.upd d H2 _)) aX⟩⟩
theorem Q7{K:PySem.W.Frag}{to te:TE}{l:Addr}{xs:List V}{y:V}(ho:Ev to σ H (.ref l))(he:Ev te σ H y)(hl:H l=some (.lst xs))(hz:xs.length<sizeLine)
  (k:∀H',Kp l H H'→H' l=some (.lst (xs++[y]))→D.nx σ H'):Od (tBM K "list" Xd to (bw te eV)) D σ H :=
 Ev.use ho fun H1 s1=>⟨.inl ⟨rfl,_,SqL.of (s1 _ _ hl)⟩,Ev.use (he.up s1) fun H2 s2=>⟨l,xs,y,rfl,rfl,s2 _ _ (s1 _ _ hl),hz,k _ (((s1.trans s2).kp l).trans (Kp.upd l H2 _)) aX⟩⟩
end
abbrev DT:=List V→Hp→Vbbhaj.Call→Prop
section
variable {P:Program}{w:World}{K:PySem.W.Frag}{mg:Str→Option Value}{base:Heap}
variable {σ:St}{H:Hp}{ta tb tc td:TE}{a:Addr}{j:Vbbhaj.Job}{A:Ad}{s:Vbbhaj.State}{T:Txt K mg}
def Done(T:Txt K mg)(X:Addr→Prop)(H:Hp)(A:Ad)(x:Vbbhaj.State×Vbbhaj.Ans)(Q:VK):Prop:=∀v H' A',Fix H H'→A'.b=A.b→RX T X H' A' x.1→IsL (wu x.2) v H'→Q v H'
def spC(T:Txt K mg)(D:DT):Sp:=fun vs H Q _=>∃X A s c rest,vs=.ref A.b::rest∧D rest H c∧RX T X H A s∧Inv s∧Done T X H A (Vbbhaj.step s c) Q
def dI(mk:Int→Vbbhaj.Call):DT:=fun r _ c=>∃n,r=[.int n]∧c=mk n
theorem Done.no{X:Addr→Prop}{x:Vbbhaj.State×Vbbhaj.Ans}{Q:VK}{n:Int}{H1:Hp}{v:V}(d:Done T X H A x Q)(h:RX T X H A s)(e:x=(s,{num:=n}))(s1:aY H H1)(l:IsL [.int n] v H1):Q v H1:=by
 subst e
 exact d v H1 A s1.fix rfl (h.up s1) l
theorem Done.go{X:Addr→Prop}{x:Vbbhaj.State×Vbbhaj.Ans}{Q:VK}{H':Hp}{A':Ad}{v:V}(d:Done T X H A x Q)(h:RX T X H' A' x.1)(eb:A'.b=A.b)(f:Fix H H')(l:IsL (wu x.2) v H'):Q v H':=d v H' A' f eb h l
theorem Kp.free{a l:Addr}{H H':Hp}{o o':HO}(k:Kp a H H')(e:H a=some o)(h:H' l=none)(e':H' a=some o'):H l=none:=by
 cases q:H l with
 |none=>rfl
 |some u =>
  by_cases z:l=a
  ·rw[z,e']at h;cases h
  ·rw[k l u q z]at h;cases h
theorem nA{tv:TE}{D:Ends}{C dx:Addr}{fs:List (Str×V)}{f:Str}{R:V→Hp→Prop}(hv:EvP tv σ H R)(ha:Ev ta σ H (.ref a))(e:H a=some (.ins C dx fs))(c:Cls K C)(n:cJ K C f)(hl:fs.length<1000)
  (k:∀y H1 H',aY H H1→R y H1→Kp a H1 H'→H' a=some (.ins C dx (bK f y fs))→D.nx σ H'):ac5 K ta tv f D σ H :=
 EvP.use hv fun y H1 s1 r=>(Ev.use (ha.up s1) fun H2 s2=>⟨a,C,dx,fs,rfl,s2 _ _ (s1 _ _ e),c,n,hl,k y H1 _ s1 r ((s2.kp a).trans (Kp.upd a H2 _)) aX⟩)
def acJ(T:Txt K mg):Sp:=fun vs H Q _=>∃a dx,∃(jv:JV) (st c:Int),vs=[.ref a,.int st,.int c]∧H a=some (.ins T.gQ dx jv.fs) ∧
 ∀H' l,Kp a H H'→H l=none→H' l=some (.lst [])→H' a=some (.ins T.gQ dx {jv with state:=st,code:=c,tests:=l,held:=false,sH:=0,zz:=0}.fs)→Q .non H'
theorem Ce(T:Txt K mg):bG P w K mg base CX0 1 T.jN.f T.jN.fd ["job","state","code"] (acJ T):=by
 refine T.jN.F.ok Lx (fun vs H Q E ⟨_,_,_,_,_,e,_⟩=>by rw[e];rfl) fun cdv A outer s H vs Q E hr hsp=>⟨_,(ak (bF (pv 0) (pv 1) rfl)
   (ak (bF (pv 0) (pv 2) rfl)
   (ak (bF (pv 0) (bc aq) rfl)
   (ak (bF (pv 0) kI rfl)
   (ak (bF (pv 0) aH rfl)
   (az (bF (pv 0) aH rfl))))))),?_⟩
 obtain⟨a,dx,jv,st,c,rfl,e,k⟩:=hsp
 refine aN (bT (aa rfl) (aa rfl) e T.bQ T.lU (JV.few _) fun H1 k1 e1=>?_)
 dsimp only
 rw[JV.Qs]at e1
 refine aN (bT (aa rfl) (aa rfl) e1 T.bQ T.uR (JV.few _) fun H2 k2 e2=>?_)
 dsimp only
 rw[JV.acz]at e2
 refine aN (nA (yo aV (Nat.zero_le _)) (aa rfl) e2 T.bQ T.ir (JV.few _) ?_)
 rintro y H3 H4 s3 ⟨l,rfl,hl0,hl⟩ k4 e4
 dsimp only
 rw[JV.Wz]at e4
 have hl4:H4 l=some (.lst []):=k4 _ _ hl (cB hl (s3 _ _ e2) (by intro z;cases z))
 refine aN (bT aJ (aa rfl) e4 T.bQ T.oZ (JV.few _) fun H5 k5 e5=>?_)
 dsimp only
 rw[JV.U_]at e5
 refine aN (bT aJ (aa rfl) e5 T.bQ T.eG (JV.few _) fun H6 k6 e6=>?_)
 dsimp only
 rw[JV.wy]at e6
 refine bT aJ (aa rfl) e6 T.bQ T.gP (JV.few _) fun H7 k7 e7=>?_
 rw[JV.Cw]at e7
 have kk:Kp a H4 H7:=k5.trans (k6.trans k7)
 exact k H7 l (k1.trans (k2.trans ((s3.kp a).trans (k4.trans kk)))) ((k1.trans k2).free e hl0 e2) (kk _ _ hl4 (cB hl4 e4 (by intro z;cases z))) e7
theorem cT.put{H H':Hp}{dx na ta:Addr}{j j':Vbbhaj.Job}(k:Kp a H H')(e0:H a=some (.ins T.gQ dx (jv j na ta).fs))(n:KR H na j.name)(t:pX H ta j.tests)(e:H' a=some (.ins T.gQ dx (jv j' na ta).fs))(en:j'.name=j.name)(et:j'.tests=j.tests):cT T H' a j':=by
 have w:Wr H a:=.inl ⟨_,_,_,e0⟩
 refine⟨dx,na,ta,e,?_,?_⟩
 ·rw[en];exact k _ _ n (w.lst n)
 ·rw[et];exact t.up' (fun p xs q=>k _ _ q (w.lst q)) fun p xs q=>k _ _ q (w.tup q)
theorem RX.Gk{X:Addr→Prop}{H H':Hp}{dx na ta:Addr}{j j':Vbbhaj.Job}(h:RX T X H A s)(m:(a,j)∈A.L)(k:Kp a H H')(e0:hid X H a=some (.ins T.gQ dx (jv j na ta).fs))(n:KR (hid X H) na j.name)(t:pX (hid X H) ta j.tests)(e:H' a=some (.ins T.gQ dx (jv j' na ta).fs))(en:j'.name=j.name)(et:j'.tests=j.tests)(eN:j'.num=j.num) :
  RX T X H' {A with L:=A.L.map fun p=>if p.2.num=j'.num then (p.1,j')else p} {s with jobs:=Vbbhaj.setJob s.jobs j'}:=by
 have nx:=(bM e0).1
 exact⟨h.r.setJob m k.hid (cT.put (j:=j) k.hid e0 n t (by rw[cu nx];exact e) en et) eN,h.keep k nx⟩
theorem qL{H H':Hp}{dx:Addr}{jv:JV}(k:Kp a H H')(e0:H a=some (.ins T.gQ dx jv.fs)):Fix H H':=k.fix e0 (WL _ _ _)
def acN(T:Txt K mg):Sp:=fun vs H Q _=>∃X A s n b,vs=[.ref A.b,.int n,.bl b]∧RX T X H A s∧Inv s∧Done T X H A (Vbbhaj.step s (if b=true then .hold n else .letgo n)) Q
theorem XD{s:Vbbhaj.State}{n:Int}{b:Bool}:Vbbhaj.step s (if b=true then .hold n else .letgo n)=Vbbhaj.onWaiting s n fun j=>if j.held=b then Vbbhaj.no s 5 else Vbbhaj.yes {s with jobs:=Vbbhaj.setJob s.jobs {j with held:=b}} 0:=by
 cases b<;>rfl
theorem wO(h:Rep T H A s){a:Addr}{j:Vbbhaj.Job}(m:(a,j)∈A.L):j∈s.jobs:=by rw[← h.js];exact List.mem_map_of_mem (f:=(·.2)) m
theorem Hz(T:Txt K mg):bG P w K mg base CX0 4 T.oX.f T.oX.fd ["board","number","held"] (acN T):=by
 refine T.oX.F.ok zF (fun vs H Q E ⟨_,_,_,_,_,e,_⟩=>by rw[e];rfl) fun cdv A outer s H vs Q E hr hsp=>?_
 have hu:=eF hr
 refine⟨_,(ak (bu (i:=3) zF.nd rfl (Or.inl rfl) (aK T.bO (gR T) (by exact hr.mono (by decide)) rfl (aj (pv 0) (aj (pv 1) aq))))
   (ak (a_ (aR jr (pv 3) (bz T.aW rfl) (aQ _)) (az (aC (bc (aj (pv 3) aq)))) aL)
   (ak (bu (i:=4) zF.nd rfl (Or.inl rfl) (cM (by exact hu) (aD (K:=K) (pv 0) rfl) (pv 1) (fun _ _=>rfl)))
   (ak (a_ (aR dm (aD (K:=K) (pv 4) rfl) (pv 2) (aQ _)) (az (aC (bc (aj (bz T.jG rfl) aq)))) aL)
   (ak (bF (pv 4) (pv 2) rfl)
   (az (aC (bc (aj aH aq))))))))),?_⟩
 obtain⟨X,A,s,n,b,rfl,hx,iv,d⟩:=hsp
 have h:=hx.rep
 rw[XD]at d
 refine aN (iw (ug (aa rfl) (aa rfl) h iv) fun H1 s1=>?_)
 have h1:=h.up s1
 dsimp only
 refine aN (En (aP (fM (aa rfl) aJ)) (fun q H2 s2=>?_) fun q H2 s2=>?_)
 ·exact cI (aZ (aa rfl)) fun v H3 s3 l=>d.no hx (yu (by simpa using jl q)) (s1.trans (s2.trans s3)) l
 have q:GQ s n=0:=by simpa using q
 obtain⟨j,hj,hw,hf⟩:=v7 q
 rw[hf]at d
 have h2:=h1.up s2
 obtain⟨a,m,e⟩:=h2.pair hj
 show m6 _ _ _ _ _
 refine aN (iw (h2.get (cA (aa rfl) h2) (aa rfl) m e) fun H3 s3=>?_)
 have h3:=h2.up s3
 have ja:=h3.job _ m
 dsimp only
 refine aN (En (aP ((aag (Fz (aa rfl) ja) (aa rfl)).cast rfl)) (fun q2 H4 s4=>?_) fun q2 H4 s4=>?_)
 ·have q2:j.held=b:=by simpa using q2
  refine cI (aZ aJ) fun v H5 s5 l=>d.no (n:=-5) hx ?_ (s1.trans (s2.trans (s3.trans (s4.trans s5)))) l
  rw[if_pos q2];rfl
 have q2:¬j.held=b:=by simpa using q2
 rw[if_neg q2]at d
 have hx4:=hx.up (s1.trans (s2.trans (s3.trans s4)))
 obtain⟨dx,na,ta,e4,n4,t4⟩:=hx4.r.job _ m
 show m6 _ _ _ _ _
 refine aN (bT (aa rfl) (aa rfl) (bM e4).2 T.bQ T.oZ (JV.few _) fun H5 k5 e5=>?_)
 rw[JV.U_]at e5
 have h5:=hx4.Gk (j':={j with held:=b}) m k5 e4 n4 t4 e5 rfl rfl rfl
 dsimp only
 refine cI (aZ aJ) fun v H6 s6 l=>d.go (h5.up s6) rfl ?_ l
 exact(s1.trans (s2.trans (s3.trans s4))).fix.trans ((qL k5 (bM e4).2).trans s6.fix)
theorem abX(T:Txt K mg):bG P w K mg base CX0 5 T.FZ.f T.FZ.fd ["board","number"] (spC T (dI .hold)):=by
 refine T.FZ.F.ok abm (fun vs H Q E ⟨_,_,_,_,_,e,⟨_,e2,_⟩,_⟩=>by rw[e,e2];rfl) fun cdv A outer s H vs Q E hr hsp=>⟨_,(az (aC (aK T.oX (Hz T) (by exact hr.mono (by decide)) rfl (aj (pv 0) (aj (pv 1) (aj kI aq)))))),?_⟩
 obtain⟨X,A,s,c,rest,rfl,⟨n,rfl,rfl⟩,h,iv,d⟩:=hsp
 exact⟨_,rfl,_,rfl,X,A,s,n,true,rfl,h,iv,d⟩
theorem Y_(T:Txt K mg):bG P w K mg base CX0 5 T.Am.f T.Am.fd ["board","number"] (spC T (dI .letgo)):=by
 refine T.Am.F.ok Z3 (fun vs H Q E ⟨_,_,_,_,_,e,⟨_,e2,_⟩,_⟩=>by rw[e,e2];rfl) fun cdv A outer s H vs Q E hr hsp=>⟨_,(az (aC (aK T.oX (Hz T) (by exact hr.mono (by decide)) rfl (aj (pv 0) (aj (pv 1) (aj kI aq)))))),?_⟩
 obtain⟨X,A,s,c,rest,rfl,⟨n,rfl,rfl⟩,h,iv,d⟩:=hsp
 exact⟨_,rfl,_,rfl,X,A,s,n,false,rfl,h,iv,d⟩
def aba(mk:Int→Int→Int→Vbbhaj.Call):DT:=fun r _ c=>∃x y z,r=[.int x,.int y,.int z]∧c=mk x y z
theorem yq{z lo hi:Int}(h:Vbbhaj.inside z lo hi=true)(h0:0≤lo):((z.toNat:Nat):Int)=z:=by have:=bI.mp h;omega
theorem Yy(T:Txt K mg):bG P w K mg base CX0 4 T.wU.f T.wU.fd ["board","number","class_of","priority"] (spC T (aba .change)):=by
 refine T.wU.F.ok Gh (fun vs H Q E ⟨_,_,_,_,_,e,⟨_,_,_,e2,_⟩,_⟩=>by rw[e,e2];rfl) fun cdv A outer s H vs Q E hr hsp=>?_
 have hu:=eF hr
 refine⟨_,(ak (a_ (PW.pt (Hm (cD (bJ (aK T.fW (lK T) (by exact hr.mono (by decide)) rfl (aj (pv 2) aq)))) (Gj (cD (bJ (aK T.iD (Af T) (by exact hr.mono (by decide)) rfl (aj (pv 3) aq))))))) (az (aC (bc (aj (bz T.bH rfl) aq)))) aL)
   (ak (bu (i:=4) Gh.nd rfl (Or.inl rfl) (aK T.bO (gR T) (by exact hr.mono (by decide)) rfl (aj (pv 0) (aj (pv 1) aq))))
   (ak (a_ (aR jr (pv 4) (bz T.aW rfl) (aQ _)) (az (aC (bc (aj (pv 4) aq)))) aL)
   (ak (bu (i:=5) Gh.nd rfl (Or.inl rfl) (cM (by exact hu) (aD (K:=K) (pv 0) rfl) (pv 1) (fun _ _=>rfl)))
   (ak (bF (pv 5) (pv 2) rfl)
   (ak (bF (pv 5) (pv 3) rfl)
   (az (aC (bc (aj aH aq)))))))))),?_⟩
 obtain⟨X,A,s,c,rest,rfl,⟨n,c,p,rfl,rfl⟩,hx,iv,d⟩:=hsp
 have h:=hx.rep
 refine aN (En (Hy (cC (fu (iV (aa rfl)))) fun _=>cC (fu (iV (aa rfl)))) (fun q H1 s1=>?_) fun q H1 s1=>?_)
 ·refine cI (aZ aJ) fun v H3 s3 l=>d.no (n:=-1) hx (if_pos ?_) (s1.trans s3) l
  have q:(!Vbbhaj.isClass c||!Vbbhaj.inside p 0 15)=true:=q
  simpa using q
 have q:(!Vbbhaj.isClass c||!Vbbhaj.inside p 0 15)=false:=q
 simp only[Bool.or_eq_false_iff,Bool.not_eq_false']at q
 obtain⟨qc,qp⟩:=q
 have d:Done T X H A (Vbbhaj.onWaiting s n fun j=>Vbbhaj.yes {s with jobs:=Vbbhaj.setJob s.jobs {j with cls:=c.toNat,prio:=p.toNat}} 0) Q:=by
  have e:Vbbhaj.step s (.change n c p)=_:=if_neg (by rw[qc,qp];simp)
  rw[e]at d
  exact d
 have h1:=h.up s1
 show m6 _ _ _ _ _
 refine aN (iw (ug (aa rfl) (aa rfl) h1 iv) fun H2 s2=>?_)
 have h2:=h1.up s2
 dsimp only
 refine aN (En (aP (fM (aa rfl) aJ)) (fun q H3 s3=>?_) fun q H3 s3=>?_)
 ·exact cI (aZ (aa rfl)) fun v H4 s4 l=>d.no hx (yu (by simpa using jl q)) (s1.trans (s2.trans (s3.trans s4))) l
 have qq:GQ s n=0:=by simpa using q
 obtain⟨j,hj,hw,hf⟩:=v7 qq
 rw[hf]at d
 have h3:=h2.up s3
 obtain⟨a,m,e⟩:=h3.pair hj
 show m6 _ _ _ _ _
 refine aN (iw (h3.get (cA (aa rfl) h3) (aa rfl) m e) fun H4 s4=>?_)
 have hx4:=hx.up (s1.trans (s2.trans (s3.trans s4)))
 obtain⟨dx,na,ta,e4,n4,t4⟩:=hx4.r.job _ m
 dsimp only
 refine aN (bT (aa rfl) (aa rfl) (bM e4).2 T.bQ T.lH (JV.few _) fun H5 k5 e5=>?_)
 rw[JV.UG]at e5
 dsimp only
 refine aN (bT (aa rfl) (aa rfl) e5 T.bQ T.lB (JV.few _) fun H6 k6 e6=>?_)
 rw[JV.V_]at e6
 have e7:H6 a=some (.ins T.gQ dx (jv {j with cls:=c.toNat,prio:=p.toNat} na ta).fs):=by
  rw[e6]
  unfold jv
  rw[yq (lo:=1) (hi:=36) qc (by decide),yq (lo:=0) (hi:=15) qp (by decide)]
 have h6:=hx4.Gk (j':={j with cls:=c.toNat,prio:=p.toNat}) m (k5.trans k6) e4 n4 t4 e7 rfl rfl rfl
 dsimp only
 refine cI (aZ aJ) fun v H7 s7 l=>d.go (h6.up s7) rfl ?_ l
 exact(s1.trans (s2.trans (s3.trans s4))).fix.trans ((qL (k5.trans k6) (bM e4).2).trans s7.fix)
end
end Jq
end
section
set_option Elab.async false
set_option linter.all false
set_option maxRecDepth 100000
set_option maxHeartbeats 1000000
namespace Jq
open PySem PySem.Spec PyProof.Rows L2
theorem Uz{α:Type}{l:List α}{f g:α→Bool}(h:∀x∈l,f x=g x):l.any f=l.any g:=by
 induction l with
 |nil=>rfl
 |cons a r ih=>rw[List.any_cons,List.any_cons,h a List.mem_cons_self,ih fun x hx=>h x (List.mem_cons_of_mem _ hx)]
theorem ac9{t:Vbbhaj.Test}(e:Vbbhaj.Ending)(hk:t.kind≤3):zU t.kind t.n (yN (.ended e)) (JL (.ended e))=Vbbhaj.met t e:=by
 have:t.kind=0∨t.kind=1∨t.kind=2∨t.kind=3:=by omega
 unfold zU Vbbhaj.met
 rcases this with h|h|h|h<;>cases e<;>simp[h,yN,JL]
theorem Ws{l:List Vbbhaj.Job}(hs:cW l){es:List (Nat×Vbbhaj.Ending)}{t:Vbbhaj.Test}(hk:t.kind≤3){k:Vbbhaj.Job}(hm:k∈l)(hn:k.num=t.job)(he:Vbbhaj.endingIn es t.job=endOf k) :
  yL l (tri t)=!(match Vbbhaj.endingIn es t.job with | some e=>Vbbhaj.met t e | none=>true)∧xm l (tri t)=(Vbbhaj.endingIn es t.job).isNone:=by
 have hb:tX l (tri t).1=some k:=by
  show tX l ((t.job:Nat):Int)=some k
  rw[← hn]
  exact Jh hs hm
 unfold yL xm
 rw[hb,he]
 show((endOf k).isSome&&!zU (t.kind:Int) (t.n:Int) (yN k.status) (JL k.status))=_∧(endOf k).isNone=_
 cases h:endOf k with
 |none=>exact⟨rfl,rfl⟩
 |some e =>
  have hst:=Jc.mp h
  refine⟨?_,rfl⟩
  show((true:Bool)&&!zU (t.kind:Int) (t.n:Int) (yN k.status) (JL k.status))=!Vbbhaj.met t e
  rw[hst,ac9 e hk,Bool.true_and]
theorem T3{l:List Vbbhaj.Job}(hs:cW l){es:List (Nat×Vbbhaj.Ending)}{ts:List Vbbhaj.Test}(hk:∀t∈ts,t.kind≤3)(hm:∀t∈ts,∃k∈l,k.num=t.job∧Vbbhaj.endingIn es t.job=endOf k) :
  ((ts.map tri).any (yL l)=!iH es ts)∧(ts.map tri).filter (xm l)=(opened es ts).map tri:=by
 refine⟨?_,?_⟩
 ·unfold iH
  rw[List.any_map,List.not_all_eq_any_not]
  refine Uz fun t ht=>?_
  obtain⟨k,h1,h2,h3⟩:=hm t ht
  exact(Ws hs (hk t ht) h1 h2 h3).1
 ·unfold opened
  rw[List.filter_map]
  congr 1
  refine List.filter_congr fun t ht=>?_
  obtain⟨k,h1,h2,h3⟩:=hm t ht
  exact(Ws hs (hk t ht) h1 h2 h3).2
section
variable {P:Program}{w:World}{K:PySem.W.Frag}{mg:Str→Option Value}{base:Heap}
variable {σ:St}{H:Hp}{ta tb tc td:TE}{a:Addr}{j:Vbbhaj.Job}{A:Ad}{s:Vbbhaj.State}{T:Txt K mg}
theorem Rep.setAt{H':Hp}{pre post:List (Addr×Vbbhaj.Job)}{j j':Vbbhaj.Job}(h:Rep T H A s)(eL:A.L=pre++(a,j)::post)(k:Kp a H H')(hj':cT T H' a j')(e:j'.num=j.num) :
  Rep T H' {A with L:=pre++(a,j')::post} {s with jobs:=pre.map (·.2)++j'::post.map (·.2)}:=by
 have m:(a,j)∈A.L:=by rw[eL];simp
 have r:=h.setJob m k hj' e
 have srt:=h.Mg
 rw[eL,List.map_append,List.map_cons]at srt
 have hp:∀p∈pre,p.2.num≠j'.num:=fun p hp q=>by
  have h3:p.2.num<j.num:=(List.pairwise_append.mp srt).2.2 p.2 (List.mem_map_of_mem (f:=(·.2)) hp) j List.mem_cons_self
  omega
 have hq:∀p∈post,p.2.num≠j'.num:=fun p hp q=>by
  have h3:j.num<p.2.num:=(List.pairwise_cons.mp (List.pairwise_append.mp srt).2.1).1 p.2 (List.mem_map_of_mem (f:=(·.2)) hp)
  omega
 have e1:(A.L.map fun p=>if p.2.num=j'.num then (p.1,j')else p)=pre++(a,j')::post:=by
  rw[eL,List.map_append,List.map_cons,if_pos e.symm]
  congr 1
  ·have:pre.map (fun p=>if p.2.num=j'.num then (p.1,j')else p)=pre.map id:=List.map_congr_left fun p hp'=>if_neg (hp p hp')
   rw[this,List.map_id]
  ·congr 1
   have:post.map (fun p=>if p.2.num=j'.num then (p.1,j')else p)=post.map id:=List.map_congr_left fun p hp'=>if_neg (hq p hp')
   rw[this,List.map_id]
 have e2:Vbbhaj.setJob s.jobs j'=pre.map (·.2)++j'::post.map (·.2):=by
  rw[← h.js,eL,List.map_append,List.map_cons]
  exact Xv srt e.symm
 rw[e1,e2]at r
 exact r
theorem RX.setAt{X:Addr→Prop}{H':Hp}{pre post:List (Addr×Vbbhaj.Job)}{j j':Vbbhaj.Job}(h:RX T X H A s)(eL:A.L=pre++(a,j)::post)(k:Kp a H H')(nx:¬X a)(hj':cT T (hid X H') a j')(e:j'.num=j.num) :
  RX T X H' {A with L:=pre++(a,j')::post} {s with jobs:=pre.map (·.2)++j'::post.map (·.2)}:=⟨h.r.setAt eL k.hid hj' e,h.keep k nx⟩
theorem cT.mark{H':Hp}{dx na tt l:Addr}{j:Vbbhaj.Job}(e0:H a=some (.ins T.gQ dx (jv j na tt).fs))(n:KR H na j.name)(k:Kp a H H')(hl:H' l=some (.lst [])){st c:Int}{e:Vbbhaj.Ending}(es:yN (.ended e)=st)(ec:JL (.ended e)=c)
  (e1:H' a=some (.ins T.gQ dx {jv j na tt with state:=st,code:=c,tests:=l,held:=false,sH:=0,zz:=0}.fs)):cT T H' a (Vbbhaj.atEnd j e):=by
 have w:Wr H a:=.inl ⟨_,_,_,e0⟩
 refine⟨dx,na,l,?_,k _ _ n (w.lst n),[],rfl,l,rfl,hl,by simp⟩
 rw[e1]
 unfold jv Vbbhaj.atEnd
 rw[← es,← ec]
 rfl
def NJ(o:HO):Prop:=∀C dx (jv:JV),o≠.ins C dx jv.fs
def FxJ(H H':Hp):Prop:=∀b o,H b=some o→NJ o→H' b=some o
theorem FxJ.trans{H H1 H2:Hp}(x:FxJ H H1)(y:FxJ H1 H2):FxJ H H2:=fun b o h n=>y b o (x b o h n) n
theorem _root_.L2.aY.fxj{H H':Hp}(s:aY H H'):FxJ H H':=fun b o h _=>s b o h
theorem Kp.fxj{H H':Hp}{C dx:Addr}{jv:JV}(k:Kp a H H')(e:H a=some (.ins C dx jv.fs)):FxJ H H':=fun b o h n=>k b o h fun z=>by
 subst z
 rw[e]at h
 exact n _ _ _ (Option.some.inj h).symm
theorem FxJ.fix{H H':Hp}(f:FxJ H H'):Fix H H':=fun b o h g=>f b o h fun C dx jv z=>by
 subst z
 rw[WL]at g
 cases g
theorem P0(xs:List V):NJ (.lst xs):=fun _ _ _ z=>by cases z
def adF(T:Txt K mg):Sp:=fun vs H Q _=>∃X A s a j st c,∃e:Vbbhaj.Ending,vs=[.ref A.dj,.ref a,.int st,.int c]∧RX T X H A s∧Good s∧(a,j)∈A.L∧live j∧yN (.ended e)=st∧JL (.ended e)=c ∧
 ∀H' L l,FxJ H H'→RX T X H' {A with L:=L} (Vbbhaj.ended s j e).1→H' l=some (.lst (pC (Vbbhaj.ended s j e).2))→Q (.ref l) H'
theorem X5{es:List (Nat×Vbbhaj.Ending)}{y:Vbbhaj.Job}(h:y.status≠.waiting):turn es y=y∧jB es y=es∧pY es y=[]:=by
 unfold turn jB pY
 exact⟨if_neg h,if_neg h,if_neg h⟩
theorem aav{es:List (Nat×Vbbhaj.Ending)}{y:Vbbhaj.Job}(h:y.status=.waiting)(q:iH es y.tests=true):turn es y={y with tests:=opened es y.tests}∧jB es y=es∧pY es y=[]:=by
 unfold turn jB pY
 rw[if_pos h,if_pos h,if_pos h]
 exact⟨if_pos q,if_pos q,if_pos q⟩
theorem Vt{es:List (Nat×Vbbhaj.Ending)}{y:Vbbhaj.Job}(h:y.status=.waiting)(q:iH es y.tests=false):turn es y=Vbbhaj.atEnd y .flushed∧jB es y=(y.num,.flushed)::es∧pY es y=[y.num]:=by
 unfold turn jB pY
 rw[if_pos h,if_pos h,if_pos h]
 have q:¬iH es y.tests=true:=by rw[q];simp
 exact⟨if_neg q,if_neg q,if_neg q⟩
structure WalkAt(T:Txt K mg)(X:Addr→Prop)(A:Ad)(s:Vbbhaj.State)(L0:List (Addr×Vbbhaj.Job))(es0:List (Nat×Vbbhaj.Ending))(H0:Hp)(lf:Addr)(i:Nat)(H:Hp):Prop where
 ex:∃pre es fl,pre.length=i∧RX T X H {A with L:=pre++L0.drop i} {s with jobs:=(pre++L0.drop i).map (·.2)}∧uo (pre.map (·.2)) es ((L0.drop i).map (·.2)) ∧
  pre.map (·.2)++Vbbhaj.tell es ((L0.drop i).map (·.2))=Vbbhaj.tell es0 (L0.map (·.2))∧fl++flush es ((L0.drop i).map (·.2))=flush es0 (L0.map (·.2))∧H lf=some (.lst (pC fl))∧fl.length≤i
 fx:∀b o,H0 b=some o→NJ o→b≠lf→H b=some o
theorem J8(T:Txt K mg):bG P w K mg base CX0 3 T.qM.f T.qM.fd ["jobs","job","state","code"] (adF T):=by
 refine T.qM.F.ok yp (fun vs H Q E ⟨_,_,_,_,_,_,_,_,e,_⟩=>by rw[e];rfl) fun cdv A outer s H vs Q E hr hsp=>?_
 have hu:=eF hr
 refine⟨_,(ak (iQ (aK T.jN (Ce T) (by exact hr.mono (by decide)) rfl (aj (pv 1) (aj (pv 2) (aj (pv 3) aq)))))
   (ak (bu (i:=4) yp.nd rfl (Or.inl rfl) (bc aq))
   (ak (tK PassesOwn.never rfl (cY (bR (xV rfl) rfl T.uX xj (aj (pv 0) aq))) (bL (i:=5) yp.nd rfl (Or.inl rfl)) (ak (bu (i:=6) yp.nd rfl (Or.inl rfl) (cM (by exact hu) (pv 0) (pv 5) (fun _ _=>rfl)))
   (ak (a_ (aR jr (aD (K:=K) (pv 6) rfl) (bz T.mK rfl) (aQ _)) (az R4) aL)
   (az (a_ (bJ (aK T.d9 (uV T) (by exact hr.mono (by decide)) rfl (aj (pv 0) (aj (aD (K:=K) (pv 6) rfl) aq)))) (ak (iQ (aK T.jN (Ce T) (by exact hr.mono (by decide)) rfl (aj (pv 6) (aj (bz T.Gd rfl) (aj aH aq)))))
   (az (iQ (M_ PySem.F.plainAttrs_list PySem.F.slot_list_append PySem.F.type_list_append NQ (pv 4) (aj (pv 5) aq))))) (az (bF (pv 6) (aK T.dG (tZ T) (by exact hr.mono (by decide)) rfl (aj (pv 0) (aj (aD (K:=K) (pv 6) rfl) aq))) rfl)))))))
   (az (aC (pv 4)))))),?_⟩
 obtain⟨X,A,s,a,j,st,c,e,rfl,hx,g,m,hlv,hst,hcd,kk⟩:=hsp
 have h:=hx.rep
 refine aN (o7 (aB (aa rfl) (aB (aa rfl) (aB (aa rfl) aV))) fun Ha sa=>?_)
 have ha:=hx.up sa
 obtain⟨dx,na,tt,e0,n0,t0⟩:=id (ha.r.job _ m)
 have nxa:=(bM e0).1
 have e0':=(bM e0).2
 refine⟨a,dx,_,st,c,rfl,e0',fun H1 lt k1 hlt0 hlt e1=>?_⟩
 have j1:cT T (hid X H1) a (Vbbhaj.atEnd j e):=cT.mark e0 n0 k1.hid (by rw[cu (ha.fresh hlt0)];exact hlt) hst hcd (by rw[cu nxa];exact e1)
 have r1:RX T X H1 _ _:=⟨ha.r.setJob m k1.hid j1 rfl,ha.keep k1 nxa⟩
 have tI:=BX g (wO h m) hlv e
 have fx1:FxJ H H1:=sa.fxj.trans (k1.fxj e0')
 generalize hL0:(A.L.map fun p=>if p.2.num=(Vbbhaj.atEnd j e).num then (p.1,Vbbhaj.atEnd j e)else p)=L0 at r1
 have js1:L0.map (·.2)=Vbbhaj.setJob s.jobs (Vbbhaj.atEnd j e):=r1.r.js
 have ok0:∀p∈L0,sS p.2:=fun p hp=>by
  have:p.2∈Vbbhaj.setJob s.jobs (Vbbhaj.atEnd j e):=by rw[← js1];exact List.mem_map_of_mem (f:=(·.2)) hp
  rcases dU this with ⟨e2,_⟩|⟨e2,_⟩
  ·rw[e2];exact JH (g.ok _ (wO h m)) e
  ·exact g.ok _ e2
 dsimp only
 refine aN (uY (yo aV (Nat.zero_le _)) ?_)
 rintro v H2 s2 ⟨lf,rfl,hlf0,hlf⟩
 dsimp only
 have r2x:=r1.more hlf0 s2 (by rw[hlf];simp)
 have r2:=r2x.rep
 refine aN (Tg (K:=K) (Ht (a:=A.dj) (aa rfl) r2.jobs (Ge _) (N8 r2.Mg)) (fun _ _=>IsN.l) fun l0 H3 s3 rn hl0=>⟨fun i σ' H'=>(∃o5 o6,σ'=[some (.ref A.dj),some (.ref a),some (.int st),some (.int c),some (.ref lf),o5,o6])∧WalkAt T (fun b=>X b∨b=lf) A s L0 [(j.num,e)] H3 lf i H',?_,?_,?_,?_⟩)
 ·refine⟨⟨_,_,rfl⟩,⟨[],[(j.num,e)],[],rfl,?_,?_,rfl,rfl,s3 _ _ hlf,Nat.le_refl _⟩,fun b o eb _ _=>eb⟩
  ·rw[List.nil_append,List.drop_zero,js1]
   exact r2x.up s3
  ·rw[List.drop_zero,js1]
   exact tI
 ·rintro i σ' H' _ ⟨_,wk⟩
  obtain⟨_,e9,n9,_⟩:=rn
  cases e9
  exact wk.fx _ _ hl0 (P0 _) fun z=>by rw[z,hlf]at n9;cases n9
 ·rintro i x σ' H' hx' ⟨⟨o5,o6,rfl⟩,⟨pre,es,fl,hpl,rpx,tv,e1',e2',hf,hfl⟩,fx⟩
  rw[List.map_map,List.getElem?_map]at hx'
  obtain⟨⟨b,y⟩,hy,rfl⟩:∃p,L0[i]?=some p∧V.int (p.2.num:Int)=x:=by
   cases q:L0[i]? with
   |none=>rw[q]at hx';cases hx'
   |some p=>rw[q]at hx';exact⟨p,rfl,Option.some.inj hx'⟩
  have hil:i<L0.length:=(List.getElem?_eq_some_iff.mp hy).1
  have hdr:L0.drop i=(b,y)::L0.drop (i+1):=by
   rw[List.drop_eq_getElem_cons hil]
   congr 1
   have:=(List.getElem?_eq_some_iff.mp hy).2
   exact this
  rw[hdr]at rpx tv e1' e2'
  have rp:=rpx.rep
  have my:(b,y)∈pre++(b,y)::L0.drop (i+1):=by simp
  have oky:sS y:=ok0 _ (List.mem_of_getElem? hy)
  have srt:=rp.Mg
  have jy:=rp.job _ my
  rw[List.map_cons]at tv e1' e2'
  rw[uz]at e1'
  have e2':fl++(pY es y++flush (jB es y) ((L0.drop (i+1)).map (·.2)))=flush [(j.num,e)] (L0.map (·.2)):=e2'
  have tv':=tv.step
  show m6 _ _ _ _ _
  refine aN (iw (rp.get (aa rfl) (aa rfl) my rfl) fun H4 s4=>?_)
  dsimp only
  have rp4:=rp.up s4
  have jy4:=jy.up s4
  have fin:∀{H5:Hp} {o5 o6:Option V},RX T (fun b=>X b∨b=lf) H5 {A with L:=pre++(b,turn es y)::L0.drop (i+1)} {s with jobs:=pre.map (·.2)++turn es y::(L0.drop (i+1)).map (·.2)}→H5 lf=some (.lst (pC (fl++pY es y)))→(∀b o,H3 b=some o→NJ o→b≠lf→H5 b=some o) →
    (∃p5 p6,[some (V.ref A.dj),some (.ref a),some (.int st),some (.int c),some (.ref lf),o5,o6]=[some (V.ref A.dj),some (.ref a),some (.int st),some (.int c),some (.ref lf),p5,p6])∧WalkAt T (fun b=>X b∨b=lf) A s L0 [(j.num,e)] H3 lf (i+1) H5:=by
   intro H5 o5 o6 r5 hf5 fx5
   refine⟨⟨_,_,rfl⟩,⟨pre++[(b,turn es y)],jB es y,fl++pY es y,by rw[List.length_append,hpl];rfl,?_,?_,?_,?_,hf5,?_⟩,fx5⟩
   ·rw[List.append_assoc,List.singleton_append,List.map_append,List.map_cons]
    exact r5
   ·rw[List.map_append]
    exact tv'
   ·rw[List.map_append,List.append_assoc]
    exact e1'
   ·rw[List.append_assoc]
    exact e2'
   ·rw[List.length_append]
    have:(pY es y).length≤1:=by
     unfold pY
     split
     ·split<;>simp
     ·simp
    omega
  refine aN (En (aP ((fM (jL (aa rfl) jy4) aJ).cast (w:=.bl (!Vbbhaj.isWaiting y)) (by rw[Dy]))) (fun q H5 s5=>?_) fun q H5 s5=>?_)
  ·
   have q:¬y.status=.waiting:=fun z=>by
    have:=jl q
    rw[rQ.mpr z]at this
    cases this
   obtain⟨t1,t2,t3⟩:=X5 (es:=es) q
   have sx:=s4.trans s5
   refine fin ?_ ?_ fun b' o' h1 h2 h3=>sx _ _ (fx b' o' h1 h2 h3)
   ·rw[t1]
    have:=rpx.up sx
    rw[List.map_append,List.map_cons]at this
    exact this
   ·rw[t3,List.append_nil]
    exact sx _ _ hf
  have qw:y.status=.waiting:=rQ.mp (nG q)
  have rp5:=rp4.up s5
  have rpx5:=rpx.up (s4.trans s5)
  obtain⟨dy,ny,ty,eyx,nnyx,ps,ep,htrx⟩:=id (rpx5.r.job _ my)
  obtain⟨nxb,ey⟩:=bM eyx
  have htr:Bu H5 ps (.ref ty):=wD _ _ _ aaW htrx
  have hk3:∀t∈y.tests,t.kind≤3:=fun t ht=>(oky.tst t ht).1
  have hts:=tv.tst y List.mem_cons_self
  have hts':∀t∈y.tests,∃k∈(pre++(b,y)::L0.drop (i+1)).map (·.2),k.num=t.job∧Vbbhaj.endingIn es t.job=endOf k:=fun t ht=>by
   rw[List.map_append,List.map_cons]
   exact hts t ht
  obtain⟨af,ao⟩:=T3 (es:=es) srt hk3 hts'
  have hin:∀p∈ps,∃q∈pre++(b,y)::L0.drop (i+1),(q.2.num:Int)=p.2.1:=fun p hp=>by
   have:p.2∈y.tests.map tri:=by rw[← ep];exact List.mem_map_of_mem (f:=(·.2)) hp
   obtain⟨t,ht,et⟩:=List.mem_map.mp this
   obtain⟨k,hk,hn,_⟩:=hts' t ht
   obtain⟨q',hq',rfl⟩:=List.mem_map.mp hk
   exact⟨q',hq',by rw[← et];show(q'.2.num:Int)=(t.job:Int);rw[hn]⟩
  have few8:ps.length≤8:=by rw[GD ep];exact oky.few
  have gts:∀{f:Hp→List Vbbhaj.Job→List (Addr×Int×Int×Int)→V→Hp→Prop} {H':Hp},aY H5 H'→gTs T f [.ref A.dj,.ref ty] H' (f H' ((pre++(b,y)::L0.drop (i+1)).map (·.2)) ps):=fun{f H'} s' =>
   ⟨A.dj,ty,pre++(b,y)::L0.drop (i+1),ps,rfl,(rp5.up s').jobs,(rp5.up s').job,srt,wD _ _ _ s' htr,hin,few8,rfl⟩
  have efail:(ps.any fun p=>yL ((pre++(b,y)::L0.drop (i+1)).map (·.2)) p.2)=!iH es y.tests:=by
   rw[← af,← ep,zY]
  dsimp only
  refine En (fu (Ev.cast (nH (G:=gTs T fun _ l ps v _=>v=.bl (ps.any fun p=>yL l p.2)) (aB (aa rfl) (aB (b_ (aa rfl) ey T.bQ T.ir (JV.Ir _)) aV)) fun H' s'=>gts s') (congrArg V.bl efail))) (fun q6 H6 s6=>?_) fun q6 H6 s6=>?_
  ·
   have q6:iH es y.tests=false:=jl q6
   obtain⟨t1,t2,t3⟩:=Vt qw q6
   have rp6:=rp5.up s6
   refine aN (o7 (aB (aa rfl) (aB aJ (aB aJ aV))) fun H7 s7=>?_)
   have rp7:=rpx.up (s4.trans (s5.trans (s6.trans s7)))
   obtain⟨dy,ny,ty,eyx,nny,_⟩:=id (rp7.r.job _ my)
   obtain⟨nxb,ey⟩:=bM eyx
   refine⟨b,dy,_,4,0,rfl,ey,fun H8 l8 k8 hl80 hl8 e8=>?_⟩
   have j8:cT T (hid (fun b=>X b∨b=lf) H8) b (Vbbhaj.atEnd y .flushed):=cT.mark (e:=.flushed) eyx nny k8.hid (by rw[cu (rp7.fresh hl80)];exact hl8) rfl rfl (by rw[cu nxb];exact e8)
   have r8:=rp7.setAt (A:={A with L:=pre++(b,y)::L0.drop (i+1)}) rfl k8 nxb j8 rfl
   have sx:aY H' H7:=s4.trans (s5.trans (s6.trans s7))
   have fx8:∀b o,H3 b=some o→NJ o→b≠lf→H8 b=some o:=fun b' o' h1 h2 h3=>k8.fxj ey _ _ (sx _ _ (fx b' o' h1 h2 h3)) h2
   have hf8:H8 lf=some (.lst (pC fl)):=k8.fxj ey _ _ (sx _ _ hf) (P0 _)
   dsimp only
   refine Q7 (y:=.int y.num) (aa rfl) (aa rfl) hf8 ?_ fun H9 k9 e9=>?_
   ·rw[iR]
    have h1:=rp.PN
    have h2:i≤500:=by
     have:(pre++(b,y)::L0.drop (i+1)).length≤500:=h1
     rw[List.length_append,hpl]at this
     omega
    exact iB (by omega)
   ·refine fin ?_ ?_ fun b' o' h1 h2 h3=>k9 _ _ (fx8 b' o' h1 h2 h3) h3
    ·rw[t1]
     exact r8.kpX (.inr rfl) k9 (by rw[e9];simp)
    ·rw[e9,t3]
     unfold pC
     rw[List.map_append]
     rfl
  ·
   have q6:iH es y.tests=true:=nG q6
   obtain⟨t1,t2,t3⟩:=aav qw q6
   have rp6:=rp5.up s6
   refine nA (R:=fun v H'=>Bu H' (ps.filter fun p=>xm ((pre++(b,y)::L0.drop (i+1)).map (·.2)) p.2) v∧∃d,v=.ref d∧H6 d=none) ?_ (aa rfl) (s6 _ _ ey) T.bQ T.ir (JV.few _) ?_
   ·refine Vx (G:=gTs T fun H l ps v H'=>Bu H' (ps.filter fun p=>xm l p.2) v∧∃d,v=.ref d∧H d=none) (aB (aa rfl) (aB (b_ (aa rfl) (s6 _ _ ey) T.bQ T.ir (JV.Ir _)) aV)) fun H' s'=>?_
    exact⟨_,gts (s6.trans s'),fun v H'' ⟨q1,d,q2,q3⟩=>⟨q1,d,q2,s'.free q3⟩⟩
   rintro v H7 H8 s7 ⟨⟨l8,rfl,hl8,hp8⟩,d8,ed8,hd8⟩ k8 e8
   cases ed8
   rw[JV.Wz]at e8
   have rp7:=rpx.up (s4.trans (s5.trans (s6.trans s7)))
   have s57:aY (hid (fun b=>X b∨b=lf) H5) (hid (fun b=>X b∨b=lf) H7):=Er (s6.trans s7)
   have ey7:=s7 _ _ (s6 _ _ ey)
   have wr:Wr (hid (fun b=>X b∨b=lf) H7) b:=.inl ⟨_,_,_,s57 _ _ eyx⟩
   have n8:¬(X l8∨l8=lf):=(rpx.up (s4.trans (s5.trans s6))).fresh hd8
   have j8:cT T (hid (fun b=>X b∨b=lf) H8) b {y with tests:=opened es y.tests}:=by
    obtain⟨_,e9,_,htx⟩:=htrx
    have nm7:=s57 _ _ nnyx
    have l87:hid (fun b=>X b∨b=lf) H7 l8=_:=(cu n8).trans hl8
    refine⟨dy,ny,l8,by rw[cu nxb,e8];rfl,k8.hid _ _ nm7 (wr.lst nm7),ps.filter fun p=>xm ((pre++(b,y)::L0.drop (i+1)).map (·.2)) p.2,?_,l8,rfl,k8.hid _ _ l87 (wr.lst l87),fun p hp=>?_⟩
    ·show _=(opened es y.tests).map tri
     rw[← ao,← ep,List.filter_map]
     rfl
    ·have tp:=s57 _ _ (htx p (List.mem_filter.mp hp).1)
     exact k8.hid _ _ tp (wr.tup tp)
   have r8:=rp7.setAt (A:={A with L:=pre++(b,y)::L0.drop (i+1)}) rfl k8 nxb j8 rfl
   have sx:aY H' H7:=s4.trans (s5.trans (s6.trans s7))
   refine fin ?_ ?_ fun b' o' h1 h2 h3=>k8.fxj ey7 _ _ (sx _ _ (fx b' o' h1 h2 h3)) h2
   ·rw[t1]
    exact r8
   ·rw[t3,List.append_nil]
    exact k8.fxj ey7 _ _ (sx _ _ hf) (P0 _)
 ·rintro σ' H' ⟨⟨o5,o6,rfl⟩,⟨pre,es,fl,hpl,rp,tv,e1',e2',hf,hfl⟩,fx⟩
  have hn:((L0.map fun p=>(p.2.num:Int)).map V.int).length=L0.length:=by rw[List.length_map,List.length_map]
  rw[hn]at rp e1' e2'
  rw[List.drop_length,List.map_nil]at e1' e2'
  rw[List.drop_length,List.append_nil]at rp
  have e1':pre.map (·.2)=Vbbhaj.tell [(j.num,e)] (L0.map (·.2)):=by
   rw[← e1']
   show _=pre.map (·.2)++[]
   rw[List.append_nil]
  have e2':fl=flush [(j.num,e)] (L0.map (·.2)):=by
   rw[← e2']
   show _=fl++[]
   rw[List.append_nil]
  dsimp only
  refine Ev.use (aa (v:=.ref lf) rfl) fun H5 s5=>?_
  refine kk H5 pre lf ?_ ?_ ?_
  ·intro b o eb nj
   refine s5 _ _ (fx b o (s3 _ _ (s2 _ _ (fx1 b o eb nj))) nj fun z=>?_)
   have:=fx1 b o eb nj
   rw[z,hlf0]at this
   cases this
  ·have e3:(Vbbhaj.ended s j e).1={s with jobs:=pre.map (·.2)}:=by rw[e1',js1];rfl
   rw[e3]
   exact(rp.up s5).less fun b hb=>.inl hb
  ·rw[Sy g e,← js1,← e2']
   exact s5 _ _ hf
end
end Jq
end
section
set_option Elab.async false
set_option linter.all false
set_option maxRecDepth 100000
set_option maxHeartbeats 1000000
namespace Jq
open PySem PySem.Spec PyProof.Rows L2
section
variable {P:Program}{w:World}{K:PySem.W.Frag}{mg:Str→Option Value}{base:Heap}
variable {σ:St}{H:Hp}{ta tb tc td:TE}{a:Addr}{j:Vbbhaj.Job}{A:Ad}{s:Vbbhaj.State}{T:Txt K mg}{X:Addr→Prop}
theorem Rr(x:Vbbhaj.State×List Nat):(Vbbhaj.told x).1=x.1∧wu (Vbbhaj.told x).2=.int x.2.length::.int x.2.length::pC x.2:=⟨rfl,Ks _ _⟩
theorem Av{s:Vbbhaj.State}(g:Good s)(j:Vbbhaj.Job)(e:Vbbhaj.Ending):(Vbbhaj.ended s j e).2.length≤500:=by
 show((s.jobs.filter _).map _).length≤500
 rw[List.length_map]
 have:=List.length_filter_le (fun x=>Vbbhaj.isWaiting x&&(x.num != j.num&&(Vbbhaj.tell [(j.num,e)] (Vbbhaj.setJob s.jobs (Vbbhaj.atEnd j e))).any fun y=>y.num==x.num&&!Vbbhaj.isWaiting y)) s.jobs
 have:=g.few
 have:=g.cap.2
 omega
theorem BP{xs:List V}(hv:EvL ta σ H xs)(hv2:EvL tb σ H xs)(hz:xs.length≤50000):EvL (tOp abq (Y7 (bw (tCB (fun xs H Q=>∃p ys,xs=[.ref p]∧(SqL K H p ys∨SqT K H p ys)∧Q (.int ys.length) H) (bw ta eV)) eV)) (fG (ro KZ) [] E0 (bw tb eV))) σ H (.int xs.length::.int xs.length::xs) :=
 mC (aZ (zR hv)) (gJ hv2 (iB (by omega))) (by show 1+(xs.length+1)≤sizeLine;exact sU (by omega))
theorem Xq(T:Txt K mg):bG P w K mg base CX0 4 T.w6.f T.w6.fd ["board","number"] (spC T (dI .cancel)):=by
 refine T.w6.F.ok Fp (fun vs H Q E ⟨_,_,_,_,_,e,⟨_,e2,_⟩,_⟩=>by rw[e,e2];rfl) fun cdv A outer s H vs Q E hr hsp=>?_
 have hu:=eF hr
 refine⟨_,(ak (bu (i:=2) Fp.nd rfl (Or.inl rfl) (aK T.bO (gR T) (by exact hr.mono (by decide)) rfl (aj (pv 0) (aj (pv 1) aq))))
   (ak (a_ (aR jr (pv 2) (bz T.aW rfl) (aQ _)) (az (aC (bc (aj (pv 2) aq)))) aL)
   (ak (bu (i:=3) Fp.nd rfl (Or.inl rfl) (aK T.qM (J8 T) (by exact hr.mono (by decide)) rfl (aj (aD (K:=K) (pv 0) rfl) (aj (cM (by exact hu) (aD (K:=K) (pv 0) rfl) (pv 1) (fun _ _=>rfl)) (aj (bz T.Aa rfl) (aj aH aq))))))
   (az (aC (jm qx (bc (aj (bR bC rfl T.iT gh (aj (pv 3) aq)) aq)) (aK T.dJ (fV T) (by exact hr.mono (by decide)) rfl (aj (pv 3) aq)))))))),?_⟩
 obtain⟨X,A,s,c,rest,rfl,⟨n,rfl,rfl⟩,hx,iv,d⟩:=hsp
 have h:=hx.rep
 have d:Done T X H A (Vbbhaj.onWaiting s n fun j=>Vbbhaj.told (Vbbhaj.ended s j .cancelled)) Q:=d
 refine aN (iw (ug (aa rfl) (aa rfl) h iv) fun H1 s1=>?_)
 (try dsimp only)
 refine cU (aP (fM (aa rfl) aJ)) (fun q H2 s2=>?_) fun q H2 s2=>?_
 ·exact cI (aZ (aa rfl)) fun v H3 s3 l=>d.no hx (yu (by simpa using jl q)) (s1.trans (s2.trans s3)) l
 have q:GQ s n=0:=by simpa using q
 obtain⟨j,hj,hw,hf⟩:=v7 q
 rw[hf]at d
 have h2:=h.up (s1.trans s2)
 obtain⟨a,m,e⟩:=h2.pair hj
 show m6 _ _ _ _ _
 refine aN (Gm (aB (cA (aa rfl) h2) (aB (h2.get (cA (aa rfl) h2) (aa rfl) m e) (aB aJ (aB aJ aV)))) fun H3 s3=>?_)
 have sx:=s1.trans (s2.trans s3)
 refine⟨X,A,s,a,j,5,0,.cancelled,rfl,hx.up sx,iv.g,m,sZ (rQ.mp hw),rfl,rfl,fun H4 L l fx r4 hl=>?_⟩
 (try dsimp only)
 have hv:EvL (b8 3) (((start ["board","number","refusal","flushed"] [V.ref A.b,.int n]).set 2 (some (.int (GQ s n)))).set 3 (some (.ref l))) H4 (pC (Vbbhaj.ended s j .cancelled).2):=(aa rfl).toL hl
 have ef:=Av iv.g j .cancelled
 refine cI (BP hv hv (by rw[iR];omega)) fun v H5 s5 lv=>d.go (r4.up s5) rfl (sx.fix.trans (fx.fix.trans s5.fix)) ?_
 rw[(Rr _).2]
 rw[iR]at lv
 exact lv
theorem Xr{L:List (Addr×Vbbhaj.Job)}{n:Nat}:BW (rC L) (Sum.inl (n:Int))=rC (L.filter fun p=>p.2.num != n):=by
 unfold BW rC
 rw[List.filter_map]
 congr 1
 refine List.filter_congr fun p _=>?_
 show decide ((Sum.inl (p.2.num:Int):Key)≠Sum.inl (n:Int))=(p.2.num != n)
 rw[Bool.eq_iff_iff]
 simp
 omega
theorem Rep.forget{H':Hp}{n:Nat}(h:Rep T H A s)(k:Kp A.dj H H')(e:H' A.dj=some (.dK (BW (rC A.L) (Sum.inl (n:Int))))) :
  Rep T H' {A with L:=A.L.filter fun p=>p.2.num != n} {s with jobs:=s.jobs.filter fun x=>x.num != n}:=by
 have w:Wr H A.dj:=.inr ⟨_,h.jobs⟩
 have nd:∀{b C dx fs},H b=some (.ins C dx fs)→b≠A.dj:=fun e=>(cP e h.jobs).symm
 refine⟨?_,?_,k _ _ h.lim h.dd.2.1.symm,k _ _ h.clo h.dd.2.2.1.symm,k _ _ h.ini h.dd.2.2.2.2.2.symm,?_,h.is,fun p hp=>?_,fun p hp=>?_,?_,h.ndi,h.dd,?_,?_,h.tabs.kp k w⟩
 ·obtain⟨dx,e1⟩:=h.brd
  exact⟨dx,k _ _ e1 (nd e1)⟩
 ·rw[Xr]at e
  exact e
 ·show(A.L.filter _).map (·.2)=_
  rw[← h.js,List.filter_map]
  rfl
 ·have hj:=h.job p (List.mem_filter.mp hp).1
  obtain⟨dx,na,ta,e1,_⟩:=id hj
  exact hj.kp k w (nd e1)
 ·have hj:=h.int p hp
  obtain⟨dx,ca,e1,_⟩:=id hj
  exact hj.kp k w (nd e1)
 ·exact List.Nodup.sublist (List.Sublist.map _ List.filter_sublist) h.ndj
 ·exact List.Pairwise.sublist List.filter_sublist h.srt
 ·exact Nat.le_trans (List.length_filter_le ..) h.few
theorem Xp(T:Txt K mg):bG P w K mg base CX0 3 T.xF.f T.xF.fd ["board","number"] (spC T (dI .forget)):=by
 refine T.xF.F.ok Np (fun vs H Q E ⟨_,_,_,_,_,e,⟨_,e2,_⟩,_⟩=>by rw[e,e2];rfl) fun cdv A outer s H vs Q E hr hsp=>?_
 have hu:=eF hr
 refine⟨_,(ak (bu (i:=2) Np.nd rfl (Or.inl rfl) (aK T.cR (g8 T) (by exact hr.mono (by decide)) rfl (aj (pv 0) (aj (pv 1) aq))))
   (ak (a_ (aR jr (pv 2) (bz T.aW rfl) (aQ _)) (az (aC (bc (aj (pv 2) aq)))) aL)
   (ak (a_ (cD (bJ (aK T.jo (yf T) (by exact hr.mono (by decide)) rfl (aj (cM (by exact hu) (aD (K:=K) (pv 0) rfl) (pv 1) (fun _ _=>rfl)) aq)))) (az (aC (bc (aj (bz T.rM rfl) aq)))) aL)
   (ak (iQ (aax (aD (K:=K) (pv 0) rfl) (pv 1) ⟨rfl,rfl,rfl,rfl⟩))
   (az (aC (bc (aj aH aq)))))))),?_⟩
 obtain⟨X,A,s,c,rest,rfl,⟨n,rfl,rfl⟩,hx,iv,d⟩:=hsp
 have h:=hx.rep
 refine aN (iw (xx (aa rfl) (aa rfl) h) fun H1 s1=>?_)
 (try dsimp only)
 refine cU (aP (fM (aa rfl) aJ)) (fun q H2 s2=>?_) fun q H2 s2=>?_
 ·exact cI (aZ (aa rfl)) fun v H3 s3 l=>d.no hx (yX (vm.mp (jl q))) (s1.trans (s2.trans s3)) l
 have q:fL s n=0:=by simpa using q
 obtain⟨j,hj,hf⟩:=qK q
 have h2:=h.up (s1.trans s2)
 obtain⟨a,m,e⟩:=h2.pair hj
 (try dsimp only)
 refine cU (cC (fu (nW (h2.get (cA (aa rfl) h2) (aa rfl) m e) (h2.job _ m)))) (fun q H3 s3=>?_) fun q H3 s3=>?_
 ·have q:(endOf j).isSome=false:=jl q
  refine cI (aZ aJ) fun v H4 s4 l=>d.no (n:=-6) hx ((hf _).trans ?_) (s1.trans (s2.trans (s3.trans s4))) l
  unfold endOf at q
  cases hs:j.status with
  |waiting=>rfl
  |running=>rfl
  |ended z=>rw[hs]at q;cases q
 have q:(endOf j).isSome=true:=nG q
 obtain⟨z,ez⟩:=Option.isSome_iff_exists.mp q
 have hst:=Jc.mp ez
 have d:Done T X H A (Vbbhaj.yes {s with jobs:=s.jobs.filter fun x=>x.num != j.num} 0) Q:=by
  have e:Vbbhaj.step s (.forget n)=_:=hf _
  rw[e]at d
  simp only[hst]at d
  exact d
 have sx:=s1.trans (s2.trans s3)
 have hx3:=hx.up sx
 have h3:=hx3.rep
 (try dsimp only)
 refine aN (adM (v:=.ref a) (cA (aa rfl) h3) (aa rfl) h3.jobs (by rw[← e];exact zg h3.Mg m) fun H5 k5 e5=>?_)
 (try dsimp only)
 have nxd:=(bM hx3.r.jobs).1
 have hx6:RX T X H5 _ _:=⟨hx3.r.forget (n:=j.num) k5.hid (by rw[cu nxd,e5,← e]),hx3.keep k5 nxd⟩
 refine cI (aZ aJ) fun v H7 s7 l=>d.go (hx6.up s7) rfl ?_ l
 exact sx.fix.trans ((k5.fix h3.jobs (W4 _)).trans s7.fix)
end
end Jq
end
section
set_option Elab.async false
set_option linter.all false
set_option maxRecDepth 100000
set_option maxHeartbeats 1000000
namespace Jq
open PySem PySem.Spec PyProof.Rows L2
section
variable {P:Program}{w:World}{K:PySem.W.Frag}{mg:Str→Option Value}{base:Heap}
variable {σ:St}{H:Hp}{ta tb tc td:TE}{a:Addr}{j:Vbbhaj.Job}{A:Ad}{s:Vbbhaj.State}{T:Txt K mg}{X:Addr→Prop}
theorem Rep.Z5{H':Hp}{cs:List Vbbhaj.Class}(h:Rep T H A s){d:Addr}(hd:d=A.dl∨d=A.dc)(k:Kp d H H')(e1:H' A.dl=some (.dK (fY (fun c:Vbbhaj.Class=>V.int c.limit) 1 cs)))(e2:H' A.dc=some (.dK (fY (fun c:Vbbhaj.Class=>V.bl c.closed) 1 cs))) :
  Rep T H' A {s with classes:=cs}:=by
 have hdd:∃kvs,H d=some (.dK kvs):=by
  rcases hd with rfl|rfl
  ·exact⟨_,h.lim⟩
  ·exact⟨_,h.clo⟩
 obtain⟨kvs,hdk⟩:=hdd
 have w:Wr H d:=.inr ⟨_,hdk⟩
 have nd:∀{b C dx fs},H b=some (.ins C dx fs)→b≠d:=fun e=>(cP e hdk).symm
 have n1:A.dj≠d:=by rcases hd with rfl | rfl;exact h.dd.2.1;exact h.dd.2.2.1
 have n2:A.di≠d:=by rcases hd with rfl | rfl;exact h.dd.2.2.2.1;exact h.dd.2.2.2.2.1
 refine⟨?_,k _ _ h.jobs n1,e1,e2,k _ _ h.ini n2,h.js,h.is,fun p hp=>?_,fun p hp=>?_,h.ndj,h.ndi,h.dd,h.srt,h.few,h.tabs.kp k w⟩
 ·obtain⟨dx,e⟩:=h.brd
  exact⟨dx,k _ _ e (nd e)⟩
 ·obtain⟨dx,na,ta,e,_⟩:=id (h.job p hp)
  exact(h.job p hp).kp k w (nd e)
 ·obtain⟨dx,ca,e,_⟩:=id (h.int p hp)
  exact(h.int p hp).kp k w (nd e)
theorem Rep.VV{H':Hp}{s':Vbbhaj.State}{dx:Addr}(h:Rep T H A s)(k:Kp A.b H H')(e:H' A.b=some (.ins T.d_ dx (bv A s').fs))(e1:s'.classes=s.classes)(e2:s'.inits=s.inits)(e3:s'.jobs=s.jobs):Rep T H' A s':=by
 obtain⟨dx0,e0⟩:=h.brd
 have w:Wr H A.b:=.inl ⟨_,_,_,e0⟩
 refine⟨⟨dx,e⟩,k _ _ h.jobs (cP e0 h.jobs),?_,?_,k _ _ h.ini (cP e0 h.ini),by rw[e3];exact h.js,by rw[e2];exact h.is,fun p hp=>(h.job p hp).kp k w (h.SN (h.job p hp)),fun p hp=>(h.int p hp).kp k w (h.Tv (h.int p hp)),h.ndj,h.ndi,h.dd,by rw[e3];exact h.srt,by rw[e3];exact h.few,h.tabs.kp k w⟩
 ·rw[e1];exact k _ _ h.lim (cP e0 h.lim)
 ·rw[e1];exact k _ _ h.clo (cP e0 h.clo)
def dII(mk:Int→Int→Vbbhaj.Call):DT:=fun r _ c=>∃x y,r=[.int x,.int y]∧c=mk x y
theorem Yj{s:Vbbhaj.State}(g:Good s){c n:Int}(hc:Vbbhaj.isClass c=true)(hn:0≤n):putK (fY (fun c:Vbbhaj.Class=>V.int c.limit) 1 s.classes) (Sum.inl c) (.int n)=fY (fun c:Vbbhaj.Class=>V.int c.limit) 1 (s.classes.set (c.toNat - 1) {Vbbhaj.classAt s c.toNat with limit:=n.toNat}):=by
 have e:=rm g hc
 have hl:c.toNat - 1<s.classes.length:=(List.getElem?_eq_some_iff.mp e.1).1
 have:=Tu (fun c:Vbbhaj.Class=>V.int c.limit) (n:=1) {Vbbhaj.classAt s c.toNat with limit:=n.toNat} hl
 rw[e.2]at this
 rw[← this]
 congr 2
 show n=((n.toNat:Nat):Int)
 omega
theorem R3{s:Vbbhaj.State}(g:Good s){c:Int}{b:Bool}(hc:Vbbhaj.isClass c=true):putK (fY (fun c:Vbbhaj.Class=>V.bl c.closed) 1 s.classes) (Sum.inl c) (.bl b)=fY (fun c:Vbbhaj.Class=>V.bl c.closed) 1 (s.classes.set (c.toNat - 1) {Vbbhaj.classAt s c.toNat with closed:=b}):=by
 have e:=rm g hc
 have hl:c.toNat - 1<s.classes.length:=(List.getElem?_eq_some_iff.mp e.1).1
 have:=Tu (fun c:Vbbhaj.Class=>V.bl c.closed) (n:=1) {Vbbhaj.classAt s c.toNat with closed:=b} hl
 rw[e.2]at this
 exact this
theorem Jr(T:Txt K mg):bG P w K mg base CX0 3 T.jR.f T.jR.fd ["board","class_of","n"] (spC T (dII .limit)):=by
 refine T.jR.F.ok La (fun vs H Q E ⟨_,_,_,_,_,e,⟨_,_,e2,_⟩,_⟩=>by rw[e,e2];rfl) fun cdv A outer s H vs Q E hr hsp=>?_
 have hu:=eF hr
 refine⟨_,(ak (a_ (PW.pt (Hm (cD (bJ (aK T.fW (lK T) (by exact hr.mono (by decide)) rfl (aj (pv 1) aq)))) (Gj (cD (bJ (aK T.rD (RG T) (by exact hr.mono (by decide)) rfl (aj (pv 2) aq))))))) (az (aC (bc (aj (bz T.bH rfl) aq)))) aL)
   (ak (Bd (by exact hu) (aD (K:=K) (pv 0) rfl) (pv 1) (pv 2) rfl)
   (az (aC (bc (aj (aK T.cz (ie T) (by exact hr.mono (by decide)) rfl (aj (aK T.dW (nU T) (by exact hr.mono (by decide)) rfl (aj (pv 0) aq)) (aj (pv 1) aq))) aq)))))),?_⟩
 obtain⟨X,A,s,_,rest,rfl,⟨c,n,rfl,rfl⟩,hx,iv,d⟩:=hsp
 refine cU (Hy (cC (fu (iV (aa rfl)))) fun _=>cC (fu (iV (aa rfl)))) (fun q H1 s1=>?_) fun q H1 s1=>?_
 ·refine cI (aZ aJ) fun v H3 s3 l=>d.no (n:=-1) hx (if_pos ?_) (s1.trans s3) l
  have q:(!Vbbhaj.isClass c||!Vbbhaj.inside n 0 16)=true:=q
  simpa using q
 have q:(!Vbbhaj.isClass c||!Vbbhaj.inside n 0 16)=false:=q
 simp only[Bool.or_eq_false_iff,Bool.not_eq_false']at q
 obtain⟨qc,qn⟩:=q
 have e0:Vbbhaj.step s (.limit c n)=Vbbhaj.yes {s with classes:=s.classes.set (c.toNat - 1) {Vbbhaj.classAt s c.toNat with limit:=n.toNat}} (Vbbhaj.runningIn s c.toNat):=if_neg (by rw[qc,qn];simp)
 rw[e0]at d
 have hx1:=hx.up s1
 have h1:=hx1.rep
 have nxd:=(bM hx1.r.lim).1
 have nxc:=(bM hx1.r.clo).1
 refine aN (Pz (aa rfl) (Ac (aa rfl) h1) (aa rfl) h1.lim (by rw[wM,iv.g.Cp];exact iB (by decide)) fun H2 k2 e2=>?_)
 (try dsimp only)
 rw[Yj iv.g qc (by have:=bI.mp qn;omega)]at e2
 have e3:H2 A.dc=some (.dK (fY (fun c:Vbbhaj.Class=>V.bl c.closed) 1 (s.classes.set (c.toNat - 1) {Vbbhaj.classAt s c.toNat with limit:=n.toNat}))):=by
  have z:=Bg (fun c:Vbbhaj.Class=>V.bl c.closed) (y:={Vbbhaj.classAt s c.toNat with limit:=n.toNat}) 1 (rm iv.g qc).1 rfl
  rw[z]
  exact k2 _ _ h1.clo h1.dd.1.symm
 have hx2:RX T X H2 A {s with classes:=s.classes.set (c.toNat - 1) {Vbbhaj.classAt s c.toNat with limit:=n.toNat}}:=⟨hx1.r.Z5 (.inl rfl) k2.hid (by rw[cu nxd];exact e2) (by rw[cu nxc];exact e3),hx1.keep k2 nxd⟩
 have h2:=hx2.rep
 refine cI (aZ ((Ed (uh (aa rfl) h2) (h2.v9 _) (h2.Js _) (aa rfl)).cast (w:=.int (Vbbhaj.runningIn s c.toNat)) (by rw[QF h2.js _ qc];rfl))) fun v H3 s3 l=>d.go (hx2.up s3) rfl ?_ l
 exact s1.fix.trans ((k2.fix h1.lim (W4 _)).trans s3.fix)
def aaV(T:Txt K mg):Sp:=fun vs H Q _=>∃X A s c b,vs=[.ref A.b,.int c,.bl b]∧RX T X H A s∧Inv s∧Done T X H A (Vbbhaj.step s (if b=true then .close c else .open_ c)) Q
theorem RW{s:Vbbhaj.State}{c:Int}{b:Bool}:Vbbhaj.step s (if b=true then .close c else .open_ c)=if Vbbhaj.isClass c=false then Vbbhaj.no s 1 else if (Vbbhaj.classAt s c.toNat).closed=b then Vbbhaj.no s 5 else Vbbhaj.yes {s with classes:=s.classes.set (c.toNat - 1) {Vbbhaj.classAt s c.toNat with closed:=b}} 0:=by
 cases b<;>rfl
theorem B_(T:Txt K mg):bG P w K mg base CX0 2 T.jK.f T.jK.fd ["board","class_of","closed"] (aaV T):=by
 refine T.jK.F.ok Ml (fun vs H Q E ⟨_,_,_,_,_,e,_⟩=>by rw[e];rfl) fun cdv A outer s H vs Q E hr hsp=>?_
 have hu:=eF hr
 refine⟨_,(ak (a_ (cD (bJ (aK T.fW (lK T) (by exact hr.mono (by decide)) rfl (aj (pv 1) aq)))) (az (aC (bc (aj (bz T.bH rfl) aq)))) aL)
   (ak (a_ (aR dm (cM (by exact hu) (aD (K:=K) (pv 0) rfl) (pv 1) (fun _ _=>rfl)) (pv 2) (aQ _)) (az (aC (bc (aj (bz T.jG rfl) aq)))) aL)
   (ak (Bd (by exact hu) (aD (K:=K) (pv 0) rfl) (pv 1) (pv 2) rfl)
   (az (aC (bc (aj aH aq))))))),?_⟩
 obtain⟨X,A,s,c,b,rfl,hx,iv,d⟩:=hsp
 rw[RW]at d
 refine cU (cC (fu (iV (aa rfl)))) (fun q H1 s1=>?_) fun q H1 s1=>?_
 ·exact cI (aZ aJ) fun v H3 s3 l=>d.no (n:=-1) hx (if_pos (show Vbbhaj.isClass c=false from jl q)) (s1.trans s3) l
 have qc:Vbbhaj.isClass c=true:=nG q
 rw[if_neg (nF qc)]at d
 have hx1:=hx.up s1
 have h1:=hx1.rep
 refine cU (aP (aag (fH (vJ (aa rfl) h1) (aa rfl) h1.clo (h1.closed iv.g qc)) (aa rfl))) (fun q H2 s2=>?_) fun q H2 s2=>?_
 ·have q:(Vbbhaj.classAt s c.toNat).closed=b:=by simpa using q
  exact cI (aZ aJ) fun v H3 s3 l=>d.no (n:=-5) hx (if_pos q) (s1.trans (s2.trans s3)) l
 have q:¬(Vbbhaj.classAt s c.toNat).closed=b:=by simpa using q
 rw[if_neg q]at d
 have hx2:=hx1.up s2
 have h2:=hx2.rep
 have nxd:=(bM hx2.r.lim).1
 have nxc:=(bM hx2.r.clo).1
 refine aN (Pz (aa rfl) (vJ (aa rfl) h2) (aa rfl) h2.clo (by rw[wM,iv.g.Cp];exact iB (by decide)) fun H3 k3 e3=>?_)
 (try dsimp only)
 rw[R3 iv.g qc]at e3
 have e4:H3 A.dl=some (.dK (fY (fun c:Vbbhaj.Class=>V.int c.limit) 1 (s.classes.set (c.toNat - 1) {Vbbhaj.classAt s c.toNat with closed:=b}))):=by
  have z:=Bg (fun c:Vbbhaj.Class=>V.int c.limit) (y:={Vbbhaj.classAt s c.toNat with closed:=b}) 1 (rm iv.g qc).1 rfl
  rw[z]
  exact k3 _ _ h2.lim h2.dd.1
 have hx3:RX T X H3 A {s with classes:=s.classes.set (c.toNat - 1) {Vbbhaj.classAt s c.toNat with closed:=b}}:=⟨hx2.r.Z5 (.inr rfl) k3.hid (by rw[cu nxd];exact e4) (by rw[cu nxc];exact e3),hx2.keep k3 nxc⟩
 refine cI (aZ aJ) fun v H4 s4 l=>d.go (hx3.up s4) rfl ?_ l
 exact(s1.trans s2).fix.trans ((k3.fix h2.clo (W4 _)).trans s4.fix)
theorem Jl(T:Txt K mg):bG P w K mg base CX0 3 T.jO.f T.jO.fd ["board","class_of"] (spC T (dI .close)):=by
 refine T.jO.F.ok Lg (fun vs H Q E ⟨_,_,_,_,_,e,⟨_,e2,_⟩,_⟩=>by rw[e,e2];rfl) fun cdv A outer s H vs Q E hr hsp=>⟨_,(az (aC (aK T.jK (B_ T) (by exact hr.mono (by decide)) rfl (aj (pv 0) (aj (pv 1) (aj kI aq)))))),?_⟩
 obtain⟨X,A,s,c,rest,rfl,⟨n,rfl,rfl⟩,h,iv,d⟩:=hsp
 exact⟨_,rfl,_,rfl,X,A,s,n,true,rfl,h,iv,d⟩
theorem Lz(T:Txt K mg):bG P w K mg base CX0 3 T.mL.f T.mL.fd ["board","class_of"] (spC T (dI .open_)):=by
 refine T.mL.F.ok My (fun vs H Q E ⟨_,_,_,_,_,e,⟨_,e2,_⟩,_⟩=>by rw[e,e2];rfl) fun cdv A outer s H vs Q E hr hsp=>⟨_,(az (aC (aK T.jK (B_ T) (by exact hr.mono (by decide)) rfl (aj (pv 0) (aj (pv 1) (aj kI aq)))))),?_⟩
 obtain⟨X,A,s,c,rest,rfl,⟨n,rfl,rfl⟩,h,iv,d⟩:=hsp
 exact⟨_,rfl,_,rfl,X,A,s,n,false,rfl,h,iv,d⟩
def tk(n:Nat)(j:Vbbhaj.Job):Vbbhaj.Job:=if Vbbhaj.ready j=true then {j with waited:=j.waited+n}else j
theorem acR(n:Nat)(j:Vbbhaj.Job):(tk n j).num=j.num:=by unfold tk;split<;>rfl
theorem abL(T:Txt K mg):bG P w K mg base CX0 2 T.Fv.f T.Fv.fd ["board","n"] (spC T (dI .tick)):=by
 refine T.Fv.F.ok O7 (fun vs H Q E ⟨_,_,_,_,_,e,⟨_,e2,_⟩,_⟩=>by rw[e,e2];rfl) fun cdv A outer s H vs Q E hr hsp=>?_
 have hu:=eF hr
 refine⟨_,(ak (a_ (cD (bJ (aK T.rH (Tr T) (by exact hr.mono (by decide)) rfl (aj (pv 1) aq)))) (az (aC (bc (aj (bz T.bH rfl) aq)))) aL)
   (ak (a_ (aR aaD (jm zc (aD (K:=K) (pv 0) rfl) (pv 1)) (bz T.zJ rfl) (aQ _)) (az (aC (bc (aj (bz T.Bk rfl) aq)))) aL)
   (ak (uE (pv 0) (pv 1) G4)
   (ak (tK PassesOwn.never rfl (cY (mz (VM rfl) rfl T.Gy IK (aj (aD (K:=K) (pv 0) rfl) aq))) (bL (i:=2) O7.nd rfl (Or.inl rfl)) (ak (bu (i:=3) O7.nd rfl (Or.inl rfl) (cM (by exact hu) (aD (K:=K) (pv 0) rfl) (pv 2) (fun _ _=>rfl)))
   (az (a_ (bJ (aK T.lD (Ah T) (by exact hr.mono (by decide)) rfl (aj (pv 3) aq))) (az (uE (pv 3) (pv 1) G4)) aL))))
   (az (aC (bc (aj (aD (K:=K) (pv 0) rfl) aq)))))))),?_⟩
 obtain⟨X,A,s,_,rest,rfl,⟨n,rfl,rfl⟩,hx,iv,d⟩:=hsp
 refine cU (cC (fu (iV (aa rfl)))) (fun q H1 s1=>?_) fun q H1 s1=>?_
 ·exact cI (aZ aJ) fun v H3 s3 l=>d.no (n:=-1) hx (if_pos (jl q)) (s1.trans s3) l
 have qn:Vbbhaj.inside n 1 1000000=true:=nG q
 have hn:=bI.mp qn
 have nN:((n.toNat:Nat):Int)=n:=by omega
 have d:Done T X H A (if Vbbhaj.LASTTIME<s.now+n.toNat then Vbbhaj.no s 8 else Vbbhaj.yes {s with now:=s.now+n.toNat,jobs:=s.jobs.map (tk n.toNat)} (s.now+n.toNat)) Q:=by
  have e:Vbbhaj.step s (.tick n)=_:=if_neg (nF qn)
  rw[e]at d
  exact d
 have hx1:=hx.up s1
 have h1:=hx1.rep
 refine cU (aP (eY (eY (Oe (aa rfl) h1) (aa rfl)) aJ)) (fun q H2 s2=>?_) fun q H2 s2=>?_
 ·have q:(100000000:Int)<(s.now:Int)+n:=by simpa using q
  exact cI (aZ aJ) fun v H3 s3 l=>d.no (n:=-8) hx (if_pos (by show 10 ^ 8<_;omega)) (s1.trans (s2.trans s3)) l
 have q:¬(100000000:Int)<(s.now:Int)+n:=by simpa using q
 rw[if_neg (by show¬10 ^ 8<_;omega)]at d
 have hx2:=hx1.up s2
 have h2:=hx2.rep
 obtain⟨dx,eb⟩:=hx2.r.brd
 obtain⟨nxb,eb'⟩:=bM eb
 refine aN (FQ (aa rfl) (aa rfl) eb' T.bN T.pZ (BV.few _) (BV.aaX _) fun H3 k3 e3=>?_)
 (try dsimp only)
 rw[BV.ZJ]at e3
 have hx3:RX T X H3 A {s with now:=s.now+n.toNat}:=⟨hx2.r.VV k3.hid (s':={s with now:=s.now+n.toNat}) (by
  rw[cu nxb,e3]
  unfold bv
  rw[show((s.now+n.toNat:Nat):Int)=(s.now:Int)+n by omega]) rfl rfl rfl,hx2.keep k3 nxb⟩
 have h3:=hx3.rep
 have fix3:Fix H H3:=(s1.trans s2).fix.trans (k3.fix eb' (Iu _ _ _))
 refine aN (Tg (K:=K) (YQ (cA (aa rfl) h3) h3.jobs (Ge _)) (fun _ _=>IsN.l) fun l0 H4 s4 rn hl0=>⟨fun i σ' H'=>(∃o2 o3,σ'=[some (.ref A.b),some (.int n),o2,o3])∧RX T X H' {A with L:=(A.L.take i).map (fun p=>(p.1,tk n.toNat p.2))++A.L.drop i} {s with now:=s.now+n.toNat,jobs:=((A.L.take i).map (fun p=>(p.1,tk n.toNat p.2))++A.L.drop i).map (·.2)}∧FxJ H4 H',?_,?_,?_,?_⟩)
 ·refine⟨⟨_,_,rfl⟩,?_,fun b o e _=>e⟩
  rw[List.take_zero,List.map_nil,List.nil_append,List.drop_zero,h3.js]
  exact hx3.up s4
 ·rintro i σ' H' _ ⟨_,_,fx⟩
  exact fx _ _ hl0 (P0 _)
 ·rintro i x σ' H' hx' ⟨⟨o2,o3,rfl⟩,rx,fx⟩
  rw[List.map_map,List.getElem?_map]at hx'
  obtain⟨⟨b,y⟩,hy,rfl⟩:∃p,A.L[i]?=some p∧V.int (p.2.num:Int)=x:=by
   cases q:A.L[i]? with
   |none=>rw[q]at hx';cases hx'
   |some p=>rw[q]at hx';exact⟨p,rfl,Option.some.inj hx'⟩
  have hil:i<A.L.length:=(List.getElem?_eq_some_iff.mp hy).1
  have hdr:A.L.drop i=(b,y)::A.L.drop (i+1):=by
   rw[List.drop_eq_getElem_cons hil]
   congr 1
   exact(List.getElem?_eq_some_iff.mp hy).2
  have htk:A.L.take (i+1)=A.L.take i++[(b,y)]:=q_ hy
  rw[hdr]at rx
  generalize hpre:(A.L.take i).map (fun p=>(p.1,tk n.toNat p.2))=pre at rx
  have rp:=rx.rep
  have my:(b,y)∈pre++(b,y)::A.L.drop (i+1):=by simp
  have fin:∀{H5:Hp} {o2 o3:Option V},RX T X H5 {A with L:=pre++(b,tk n.toNat y)::A.L.drop (i+1)} {s with now:=s.now+n.toNat,jobs:=pre.map (·.2)++tk n.toNat y::(A.L.drop (i+1)).map (·.2)}→FxJ H4 H5 →
    (∃p2 p3,[some (V.ref A.b),some (.int n),o2,o3]=[some (V.ref A.b),some (.int n),p2,p3])∧RX T X H5 {A with L:=(A.L.take (i+1)).map (fun p=>(p.1,tk n.toNat p.2))++A.L.drop (i+1)} {s with now:=s.now+n.toNat,jobs:=((A.L.take (i+1)).map (fun p=>(p.1,tk n.toNat p.2))++A.L.drop (i+1)).map (·.2)}∧FxJ H4 H5:=by
   intro H5 o2 o3 r5 f5
   refine⟨⟨_,_,rfl⟩,?_,f5⟩
   have e:(A.L.take (i+1)).map (fun p=>(p.1,tk n.toNat p.2))++A.L.drop (i+1)=pre++(b,tk n.toNat y)::A.L.drop (i+1):=by
    rw[htk,List.map_append,hpre,List.append_assoc]
    rfl
   rw[e,List.map_append,List.map_cons]
   exact r5
  show m6 _ _ _ _ _
  refine aN (iw (rp.get (cA (aa rfl) rp) (aa rfl) my rfl) fun H5 s5=>?_)
  (try dsimp only)
  have rx5:=rx.up s5
  refine En (fu (nW (aa rfl) (rx5.rep.job _ my))) (fun q H6 s6=>?_) fun q H6 s6=>?_
  ·have rx6:=rx5.up s6
   obtain⟨dy,ny,ty,ey,nn,tt⟩:=id (rx6.r.job _ my)
   obtain⟨nxy,ey'⟩:=bM ey
   refine FQ (aa rfl) (aa rfl) ey' T.bQ T.qg (JV.few _) (JV.Q9 _) fun H7 k7 e7=>?_
   rw[JV.aaK]at e7
   have et:tk n.toNat y={y with waited:=y.waited+n.toNat}:=if_pos q
   have j7:cT T (hid X H7) b (tk n.toNat y):=by
    rw[et]
    refine cT.put (j:=y) k7.hid ey nn tt ?_ rfl rfl
    rw[cu nxy,e7]
    unfold jv
    rw[show((y.waited+n.toNat:Nat):Int)=(y.waited:Int)+n by omega]
   exact fin (rx6.setAt (A:={A with L:=pre++(b,y)::A.L.drop (i+1)}) rfl k7 nxy j7 (acR _ _)) (fx.trans ((s5.trans s6).fxj.trans (k7.fxj ey')))
  ·have et:tk n.toNat y=y:=if_neg (by rw[q];exact Bool.false_ne_true)
   refine fin ?_ (fx.trans (s5.trans s6).fxj)
   rw[et]
   have:=rx5.up s6
   rw[List.map_append,List.map_cons]at this
   exact this
 ·rintro σ' H' ⟨⟨o2,o3,rfl⟩,rx,fx⟩
  have hl:((A.L.map fun p=>(p.2.num:Int)).map V.int).length=A.L.length:=by rw[List.length_map,List.length_map]
  rw[hl,List.take_length,List.drop_length,List.append_nil]at rx
  have ej:(A.L.map fun p=>(p.1,tk n.toNat p.2)).map (·.2)=s.jobs.map (tk n.toNat):=by
   rw[← h3.js,List.map_map,List.map_map]
   rfl
  rw[ej]at rx
  (try dsimp only)
  refine cI (aZ ((Oe (aa rfl) rx.rep).cast rfl)) fun v H8 s8 l=>d.go (rx.up s8) rfl ?_ l
  exact fix3.trans (s4.fix.trans (fx.fix.trans s8.fix))
end
end Jq
end
section
set_option Elab.async false
set_option linter.all false
set_option maxRecDepth 100000
set_option maxHeartbeats 1000000
namespace Jq
open PySem PySem.Spec PyProof.Rows L2
section
variable {P:Program}{w:World}{K:PySem.W.Frag}{mg:Str→Option Value}{base:Heap}
variable {σ:St}{H:Hp}{ta tb tc td:TE}{a:Addr}{j:Vbbhaj.Job}{A:Ad}{s:Vbbhaj.State}{T:Txt K mg}{X:Addr→Prop}
theorem Lf{xs:List V}(ha:EvL ta σ H xs):EvP (tCB (fun xs H Q=>∃p ys,xs=[.ref p]∧(SqL K H p ys∨SqT K H p ys)∧∀l,H l=none→Q (.ref l) (upd H l (.lst ys))) (bw ta eV)) σ H (IsN H xs):=fun H1 s Q k =>
 ha H1 s _ fun x' H2 s2 ⟨l,e,q⟩=>⟨l,xs,by rw[e],.inl (SqL.of q),fun p hp=>k _ _ (s2.trans (ji hp)) ⟨p,rfl,(s.trans s2).free hp,aX⟩⟩
theorem RX.Cv{H H':Hp}{dx ca:Addr}{i:Nat}{x x':Vbbhaj.Init}{iv:IV}(h:RX T X H A s)(hi:A.I[i]?=some (a,x))(k:Kp a H H')(e0:hid X H a=some (.ins T.bW dx iv.fs))(e:H' a=some (.ins T.bW dx (IV.mk x'.on ca x'.draining x'.job).fs))(c:H' ca=some (.lst (x'.classes.map fun c:Nat=>V.int c)))(nc:¬X ca) :
  RX T X H' {A with I:=A.I.set i (a,x')} {s with inits:=s.inits.set i x'}:=by
 have nx:=(bM e0).1
 exact⟨h.r.setInt hi k.hid ⟨dx,ca,by rw[cu nx];exact e,by rw[cu nc];exact c⟩,h.keep k nx⟩
theorem o9{H H':Hp}{dx:Addr}{iv:IV}(k:Kp a H H')(e0:H a=some (.ins T.bW dx iv.fs)):Fix H H':=k.fix e0 (abN _ _ _)
def adJ(T:Txt K mg):Sp:=fun vs H Q _=>∃a dx,∃iv:IV,vs=[.ref a]∧H a=some (.ins T.bW dx iv.fs) ∧
 ∀H' l,Kp a H H'→H l=none→H' l=some (.lst [])→H' a=some (.ins T.bW dx {iv with on:=false,classes:=l,draining:=false}.fs)→Q .non H'
theorem BR(T:Txt K mg):bG P w K mg base CX0 1 T.jM.f T.jM.fd ["initiator"] (adJ T):=by
 refine T.jM.F.ok Ls (fun vs H Q E ⟨_,_,_,e,_⟩=>by rw[e];rfl) fun cdv A outer s H vs Q E hr hsp=>⟨_,(ak (bF (pv 0) kI rfl)
   (ak (bF (pv 0) (bc aq) rfl)
   (az (bF (pv 0) kI rfl)))),?_⟩
 obtain⟨a,dx,iv,rfl,e,k⟩:=hsp
 refine aN (bT aJ (aa rfl) e T.bB T.jg (IV.few _) fun H1 k1 e1=>?_)
 (try dsimp only)
 rw[IV.ad5]at e1
 refine aN (nA (yo aV (Nat.zero_le _)) (aa rfl) e1 T.bB T.dq (IV.few _) ?_)
 rintro y H3 H4 s3 ⟨l,rfl,hl0,hl⟩ k4 e4
 (try dsimp only)
 rw[IV.GR]at e4
 have hl4:H4 l=some (.lst []):=k4 _ _ hl (cB hl (s3 _ _ e1) (by intro z;cases z))
 refine bT aJ (aa rfl) e4 T.bB T.cF (IV.few _) fun H5 k5 e5=>?_
 rw[IV.Cz]at e5
 exact k H5 l (k1.trans ((s3.kp a).trans (k4.trans k5))) (k1.free e hl0 e1) (k5 _ _ hl4 (cB hl4 e4 (by intro z;cases z))) e5
def acH(T:Txt K mg):Sp:=fun vs H Q _=>∃X A s i a x,vs=[.ref a]∧RX T X H A s∧A.I[i]?=some (a,x) ∧
 ∀H',Fix H H'→RX T X H' {A with I:=A.I.set i (a,Vbbhaj.without x)} {s with inits:=s.inits.set i (Vbbhaj.without x)}→Q .non H'
theorem xN(T:Txt K mg):bG P w K mg base CX0 2 T.fZ.f T.fZ.fd ["initiator"] (acH T):=by
 refine T.fZ.F.ok Fw (fun vs H Q E ⟨_,_,_,_,_,_,e,_⟩=>by rw[e];rfl) fun cdv A outer s H vs Q E hr hsp=>⟨_,(ak (bF (pv 0) aH rfl)
   (az (a_ (bJ (aD (K:=K) (pv 0) rfl)) (az (iQ (aK T.jM (BR T) (by exact hr.mono (by decide)) rfl (aj (pv 0) aq)))) aL))),?_⟩
 obtain⟨X,A,s,i,a,x,rfl,hx,hi,k⟩:=hsp
 obtain⟨dx,ca,e0,c0⟩:=hx.r.int _ (List.mem_of_getElem? hi)
 obtain⟨nx,e0'⟩:=bM e0
 obtain⟨nc,c0'⟩:=bM c0
 refine aN (bT aJ (aa rfl) e0' T.bB T.fj (IV.few _) fun H1 k1 e1=>?_)
 (try dsimp only)
 rw[IV.U0]at e1
 have c1:H1 ca=some (.lst (x.classes.map fun c:Nat=>V.int c)):=k1 _ _ c0' (cB c0' e0' (by intro z;cases z))
 refine En (b:=x.draining) (fu (b_ (aa rfl) e1 T.bB T.cF (IV.JD _))) (fun q H2 s2=>?_) fun q H2 s2=>?_
 ·refine o7 (aB (aa rfl) aV) fun H3 s3=>?_
  have e3:=s3 _ _ (s2 _ _ e1)
  refine⟨a,dx,_,rfl,e3,fun H4 l k4 l0 hl e4=>?_⟩
  have kk:Kp a H H4:=k1.trans (((s2.trans s3).kp a).trans k4)
  have ew:Vbbhaj.without x={}:=if_pos q
  refine k H4 (o9 kk e0') ?_
  rw[ew]
  exact hx.Cv hi kk e0 (ca:=l) e4 hl (hx.fresh ((k1.free e0' ((s2.trans s3).free l0) e1)))
 ·have kk:Kp a H H2:=k1.trans (s2.kp a)
  have ew:Vbbhaj.without x={x with job:=0}:=if_neg (by rw[q];exact Bool.false_ne_true)
  refine k H2 (o9 kk e0') ?_
  rw[ew]
  exact hx.Cv hi kk e0 (ca:=ca) (s2 _ _ e1) (s2 _ _ c1) nc
def dIL(mk:Int→List Int→Vbbhaj.Call):DT:=fun r H c=>∃n l xs,r=[.int n,.ref l]∧H l=some (.lst (xs.map V.int))∧xs.length≤400∧c=mk n xs
theorem Hr{xs:List Int}(h:Vbbhaj.areClasses xs=true):((xs.map Int.toNat).map fun c:Nat=>V.int c)=xs.map V.int:=by
 have h2:∀x∈xs,0≤x:=fun x hx=>by
  unfold Vbbhaj.areClasses at h
  simp only[Bool.and_eq_true]at h
  have:=List.all_eq_true.mp h.2.1 x hx
  have:=bI.mp this
  omega
 conv=>rhs;rw[← toNat_ofNat xs h2]
 rw[List.map_map,List.map_map,List.map_map]
 rfl
theorem Ho{n:Int}{xs:List Int}(h:pG n xs=0):Vbbhaj.isInit n=true∧Vbbhaj.areClasses xs=true:=by
 unfold pG at h
 cases h1:Vbbhaj.isInit n with
 |false=>rw[if_pos h1]at h;exact absurd h (by decide)
 |true =>
  rw[if_neg (nF h1)]at h
  cases h2:Vbbhaj.areClasses xs with
  |false=>rw[if_pos h2]at h;exact absurd h (by decide)
  |true=>exact⟨rfl,rfl⟩
theorem Lb{s:Vbbhaj.State}{n:Int}{xs:List Int}{y:Vbbhaj.State×Vbbhaj.Ans}(h:pG n xs≠0):(if Vbbhaj.isInit n=false then Vbbhaj.no s 1 else if Vbbhaj.areClasses xs=false then Vbbhaj.no s 2 else y)=(s,{num:=pG n xs}):=by
 unfold pG at h ⊢
 by_cases h1:Vbbhaj.isInit n=false
 ·rw[if_pos h1,if_pos h1];rfl
 ·rw[if_neg h1]at h ⊢
  rw[if_neg h1]
  by_cases h2:Vbbhaj.areClasses xs=false
  ·rw[if_pos h2,if_pos h2];rfl
  ·rw[if_neg h2]at h;exact absurd rfl h
theorem aa5(T:Txt K mg):bG P w K mg base CX0 4 T.Bh.f T.Bh.fd ["board","number","classes"] (spC T (dIL .start)):=by
 refine T.Bh.F.ok Li (fun vs H Q E ⟨_,_,_,_,_,e,⟨_,_,_,e2,_⟩,_⟩=>by rw[e,e2];rfl) fun cdv A outer s H vs Q E hr hsp=>?_
 have hu:=eF hr
 refine⟨_,(ak (bu (i:=3) Li.nd rfl (Or.inl rfl) (aK T.dZ (uW T) (by exact hr.mono (by decide)) rfl (aj (pv 1) (aj (pv 2) aq))))
   (ak (a_ (aR jr (pv 3) (bz T.aW rfl) (aQ _)) (az (aC (bc (aj (pv 3) aq)))) aL)
   (ak (bu (i:=4) Li.nd rfl (Or.inl rfl) (cM (by exact hu) (aD (K:=K) (pv 0) rfl) (pv 1) (fun _ _=>rfl)))
   (ak (a_ (bJ (aD (K:=K) (pv 4) rfl)) (az (aC (bc (aj (bz T.jG rfl) aq)))) aL)
   (ak (bF (pv 4) kI rfl)
   (ak (bF (pv 4) (mz ye rfl T.Gy IK (aj (pv 2) aq)) rfl)
   (ak (bF (pv 4) kI rfl)
   (ak (bF (pv 4) aH rfl)
   (az (aC (bc (aj aH aq)))))))))))),?_⟩
 obtain⟨X,A,s,c,rest,rfl,⟨n,l,xs,rfl,hl,hz,rfl⟩,hx,iv,d⟩:=hsp
 refine aN (iw (Ev.cast (nH (G:=Ld) (aB (aa rfl) (aB (aa rfl) aV)) fun H3 s3=>⟨n,l,xs,rfl,s3 _ _ hl,hz,rfl⟩) rfl) fun H1 s1=>?_)
 (try dsimp only)
 refine cU (aP (fM (aa rfl) aJ)) (fun q H2 s2=>?_) fun q H2 s2=>?_
 ·exact cI (aZ (aa rfl)) fun v H3 s3 lv=>d.no hx (Lb (by simpa using jl q)) (s1.trans (s2.trans s3)) lv
 have q:pG n xs=0:=by simpa using q
 obtain⟨q1,q2⟩:=Ho q
 have hx2:=hx.up (s1.trans s2)
 have h2:=hx2.rep
 have d:Done T X H A (if (Vbbhaj.initAt s n).on=true then Vbbhaj.no s 5 else Vbbhaj.yes (Vbbhaj.setInit s n {on:=true,classes:=xs.map Int.toNat}) 0) Q:=by
  have e:Vbbhaj.step s (.start n xs)=_:=(if_neg (nF q1)).trans (if_neg (nF q2))
  rw[e]at d
  exact d
 obtain⟨a,i1,i2,i3⟩:=iW h2 iv.g q1
 show m6 _ _ _ _ _
 refine aN (iw (fH (bU (aa rfl) h2) (aa rfl) h2.ini i2) fun H3 s3=>?_)
 (try dsimp only)
 refine cU (fu (Il (aa rfl) (i3.up s3))) (fun q H4 s4=>?_) fun q H4 s4=>?_
 ·exact cI (aZ aJ) fun v H5 s5 lv=>d.no (n:=-5) hx (if_pos q) (s1.trans (s2.trans (s3.trans (s4.trans s5)))) lv
 rw[if_neg (by rw[q];exact Bool.false_ne_true)]at d
 have sx:=s1.trans (s2.trans (s3.trans s4))
 have hx4:=hx.up sx
 obtain⟨dx,ca,e0,c0⟩:=hx4.r.int _ (List.mem_of_getElem? i1)
 obtain⟨nx,e0'⟩:=bM e0
 (try dsimp only)
 refine aN (bT aJ (aa rfl) e0' T.bB T.jg (IV.few _) fun H5 k5 e5=>?_)
 (try dsimp only)
 rw[IV.ad5]at e5
 have hl5:H5 l=some (.lst (xs.map V.int)):=k5 _ _ (sx _ _ hl) (cB (sx _ _ hl) e0' (by intro z;cases z))
 refine aN (nA (Lf ((aa rfl).toL hl5)) (aa rfl) e5 T.bB T.dq (IV.few _) ?_)
 rintro y H6 H7 s6 ⟨l2,rfl,n2,hl2⟩ k7 e7
 (try dsimp only)
 rw[IV.GR]at e7
 have c7:H7 l2=some (.lst (xs.map V.int)):=k7 _ _ hl2 (cB hl2 (s6 _ _ e5) (by intro z;cases z))
 refine aN (bT aJ (aa rfl) e7 T.bB T.cF (IV.few _) fun H8 k8 e8=>?_)
 (try dsimp only)
 rw[IV.Cz]at e8
 have c8:=k8 _ _ c7 (cB c7 e7 (by intro z;cases z))
 refine aN (bT aJ (aa rfl) e8 T.bB T.fj (IV.few _) fun H9 k9 e9=>?_)
 (try dsimp only)
 rw[IV.U0]at e9
 have c9:=k9 _ _ c8 (cB c8 e8 (by intro z;cases z))
 have kk:Kp a H4 H9:=k5.trans ((s6.kp a).trans (k7.trans (k8.trans k9)))
 have nc:¬X l2:=hx4.fresh (k5.free e0' n2 e5)
 have r9:=hx4.Cv (x':={on:=true,classes:=xs.map Int.toNat}) i1 kk e0 (ca:=l2) e9 (by rw[Hr q2];exact c9) nc
 exact cI (aZ aJ) fun v H10 s10 lv=>d.go (r9.up s10) rfl (sx.fix.trans ((o9 kk e0').trans s10.fix)) lv
theorem Zd(T:Txt K mg):bG P w K mg base CX0 4 T.Be.f T.Be.fd ["board","number","classes"] (spC T (dIL .serve)):=by
 refine T.Be.F.ok KY (fun vs H Q E ⟨_,_,_,_,_,e,⟨_,_,_,e2,_⟩,_⟩=>by rw[e,e2];rfl) fun cdv A outer s H vs Q E hr hsp=>?_
 have hu:=eF hr
 refine⟨_,(ak (bu (i:=3) KY.nd rfl (Or.inl rfl) (aK T.dZ (uW T) (by exact hr.mono (by decide)) rfl (aj (pv 1) (aj (pv 2) aq))))
   (ak (a_ (aR jr (pv 3) (bz T.aW rfl) (aQ _)) (az (aC (bc (aj (pv 3) aq)))) aL)
   (ak (bu (i:=4) KY.nd rfl (Or.inl rfl) (cM (by exact hu) (aD (K:=K) (pv 0) rfl) (pv 1) (fun _ _=>rfl)))
   (ak (a_ (cD (bJ (aD (K:=K) (pv 4) rfl))) (az (aC (bc (aj (bz T.lq rfl) aq)))) aL)
   (ak (bF (pv 4) (mz ye rfl T.Gy IK (aj (pv 2) aq)) rfl)
   (az (aC (bc (aj aH aq))))))))),?_⟩
 obtain⟨X,A,s,c,rest,rfl,⟨n,l,xs,rfl,hl,hz,rfl⟩,hx,iv,d⟩:=hsp
 refine aN (iw (Ev.cast (nH (G:=Ld) (aB (aa rfl) (aB (aa rfl) aV)) fun H3 s3=>⟨n,l,xs,rfl,s3 _ _ hl,hz,rfl⟩) rfl) fun H1 s1=>?_)
 (try dsimp only)
 refine cU (aP (fM (aa rfl) aJ)) (fun q H2 s2=>?_) fun q H2 s2=>?_
 ·exact cI (aZ (aa rfl)) fun v H3 s3 lv=>d.no hx (Lb (by simpa using jl q)) (s1.trans (s2.trans s3)) lv
 have q:pG n xs=0:=by simpa using q
 obtain⟨q1,q2⟩:=Ho q
 have hx2:=hx.up (s1.trans s2)
 have h2:=hx2.rep
 have d:Done T X H A (if (Vbbhaj.initAt s n).on=false then Vbbhaj.no s 3 else Vbbhaj.yes (Vbbhaj.setInit s n {Vbbhaj.initAt s n with classes:=xs.map Int.toNat}) 0) Q:=by
  have e:Vbbhaj.step s (.serve n xs)=_:=(if_neg (nF q1)).trans (if_neg (nF q2))
  rw[e]at d
  exact d
 obtain⟨a,i1,i2,i3⟩:=iW h2 iv.g q1
 show m6 _ _ _ _ _
 refine aN (iw (fH (bU (aa rfl) h2) (aa rfl) h2.ini i2) fun H3 s3=>?_)
 (try dsimp only)
 refine cU (cC (fu (Il (aa rfl) (i3.up s3)))) (fun q H4 s4=>?_) fun q H4 s4=>?_
 ·exact cI (aZ aJ) fun v H5 s5 lv=>d.no (n:=-3) hx (if_pos (jl q)) (s1.trans (s2.trans (s3.trans (s4.trans s5)))) lv
 rw[if_neg (nF (nG q))]at d
 have sx:=s1.trans (s2.trans (s3.trans s4))
 have hx4:=hx.up sx
 obtain⟨dx,ca,e0,c0⟩:=hx4.r.int _ (List.mem_of_getElem? i1)
 obtain⟨nx,e0'⟩:=bM e0
 (try dsimp only)
 refine aN (nA (Lf ((aa rfl).toL (sx _ _ hl))) (aa rfl) e0' T.bB T.dq (IV.few _) ?_)
 rintro y H6 H7 s6 ⟨l2,rfl,n2,hl2⟩ k7 e7
 (try dsimp only)
 rw[IV.GR]at e7
 have c7:H7 l2=some (.lst (xs.map V.int)):=k7 _ _ hl2 (cB hl2 (s6 _ _ e0') (by intro z;cases z))
 have kk:Kp a H4 H7:=(s6.kp a).trans k7
 have r9:=hx4.Cv (x':={Vbbhaj.initAt s n with classes:=xs.map Int.toNat}) i1 kk e0 (ca:=l2) e7 (by rw[Hr q2];exact c7) (hx4.fresh n2)
 exact cI (aZ aJ) fun v H10 s10 lv=>d.go (r9.up s10) rfl (sx.fix.trans ((o9 kk e0').trans s10.fix)) lv
theorem Tt{s:Vbbhaj.State}{n:Int}{y:Vbbhaj.State×Vbbhaj.Ans}(h:uc s n≠0):(if Vbbhaj.isInit n=false then Vbbhaj.no s 1 else if (Vbbhaj.initAt s n).on=false then Vbbhaj.no s 3 else y)=(s,{num:=uc s n}):=by
 unfold uc at h ⊢
 by_cases h1:Vbbhaj.isInit n=false
 ·rw[if_pos h1,if_pos h1];rfl
 ·rw[if_neg h1]at h ⊢
  rw[if_neg h1]
  by_cases h2:(Vbbhaj.initAt s n).on=false
  ·rw[if_pos h2,if_pos h2];rfl
  ·rw[if_neg h2]at h;exact absurd rfl h
theorem Gg{s:Vbbhaj.State}{n:Int}(h:uc s n=0):Vbbhaj.isInit n=true∧(Vbbhaj.initAt s n).on=true:=by
 unfold uc at h
 cases h1:Vbbhaj.isInit n with
 |false=>rw[if_pos h1]at h;exact absurd h (by decide)
 |true =>
  rw[if_neg (nF h1)]at h
  cases h2:(Vbbhaj.initAt s n).on with
  |false=>rw[if_pos h2]at h;exact absurd h (by decide)
  |true=>exact⟨rfl,rfl⟩
theorem Y8(T:Txt K mg):bG P w K mg base CX0 3 T.Az.f T.Az.fd ["board","number"] (spC T (dI .drain)):=by
 refine T.Az.F.ok JB (fun vs H Q E ⟨_,_,_,_,_,e,⟨_,e2,_⟩,_⟩=>by rw[e,e2];rfl) fun cdv A outer s H vs Q E hr hsp=>?_
 have hu:=eF hr
 refine⟨_,(ak (bu (i:=2) JB.nd rfl (Or.inl rfl) (aK T.du (sJ T) (by exact hr.mono (by decide)) rfl (aj (pv 0) (aj (pv 1) aq))))
   (ak (a_ (aR jr (pv 2) (bz T.aW rfl) (aQ _)) (az (aC (bc (aj (pv 2) aq)))) aL)
   (ak (bu (i:=3) JB.nd rfl (Or.inl rfl) (cM (by exact hu) (aD (K:=K) (pv 0) rfl) (pv 1) (fun _ _=>rfl)))
   (ak (a_ (bJ (aD (K:=K) (pv 3) rfl)) (az (aC (bc (aj (bz T.jG rfl) aq)))) aL)
   (ak (a_ (aR dm (aD (K:=K) (pv 3) rfl) aH (aQ _)) (az (iQ (aK T.jM (BR T) (by exact hr.mono (by decide)) rfl (aj (pv 3) aq)))) (az (bF (pv 3) kI rfl)))
   (az (aC (bc (aj (aD (K:=K) (pv 3) rfl) aq))))))))),?_⟩
 obtain⟨X,A,s,c,rest,rfl,⟨n,rfl,rfl⟩,hx,iv,d⟩:=hsp
 have h:=hx.rep
 refine aN (iw (ug (aa rfl) (aa rfl) h iv) fun H1 s1=>?_)
 (try dsimp only)
 refine cU (aP (fM (aa rfl) aJ)) (fun q H2 s2=>?_) fun q H2 s2=>?_
 ·exact cI (aZ (aa rfl)) fun v H3 s3 l=>d.no hx (Tt (by simpa using jl q)) (s1.trans (s2.trans s3)) l
 have q:uc s n=0:=by simpa using q
 obtain⟨q1,q2⟩:=Gg q
 have d:Done T X H A (if (Vbbhaj.initAt s n).draining=true then Vbbhaj.no s 5 else if (Vbbhaj.initAt s n).job=0 then Vbbhaj.yes (Vbbhaj.setInit s n {}) 0 else Vbbhaj.yes (Vbbhaj.setInit s n {Vbbhaj.initAt s n with draining:=true}) (Vbbhaj.initAt s n).job) Q:=by
  have e:Vbbhaj.step s (.drain n)=_:=(if_neg (nF q1)).trans (if_neg (nF q2))
  rw[e]at d
  exact d
 have hx2:=hx.up (s1.trans s2)
 have h2:=hx2.rep
 obtain⟨a,i1,i2,i3⟩:=iW h2 iv.g q1
 show m6 _ _ _ _ _
 refine aN (iw (fH (bU (aa rfl) h2) (aa rfl) h2.ini i2) fun H3 s3=>?_)
 (try dsimp only)
 refine cU (fu (Cj (aa rfl) (i3.up s3))) (fun q H4 s4=>?_) fun q H4 s4=>?_
 ·exact cI (aZ aJ) fun v H5 s5 l=>d.no (n:=-5) hx (if_pos q) (s1.trans (s2.trans (s3.trans (s4.trans s5)))) l
 rw[if_neg (by rw[q];exact Bool.false_ne_true)]at d
 have sx:=s1.trans (s2.trans (s3.trans s4))
 have hx4:=hx.up sx
 have i4:=i3.up (s3.trans s4)
 show m6 _ _ _ _ _
 refine aN (En (aP (bY (lW (aa rfl) i4) aJ)) (fun q H5 s5=>?_) fun q H5 s5=>?_)
 ·have q:(Vbbhaj.initAt s n).job=0:=by simpa using q
  rw[if_pos q]at d
  refine o7 (aB (aa rfl) aV) fun H6 s6=>?_
  have hx6:=hx4.up (s5.trans s6)
  obtain⟨dx,ca,e0,c0⟩:=hx6.r.int _ (List.mem_of_getElem? i1)
  obtain⟨nx,e0'⟩:=bM e0
  refine⟨a,dx,_,rfl,e0',fun H7 l k7 l0 hl e7=>?_⟩
  have r7:=hx6.Cv (x':={}) i1 k7 e0 (ca:=l) (by rw[e7];show some (HO.ins T.bW dx (IV.mk false l false ((Vbbhaj.initAt s n).job:Nat)).fs)=_;rw[q]) hl (hx6.fresh l0)
  (try dsimp only)
  have ig:nT T H7 a {}:=r7.rep.int _ (by
   show(a,({}:Vbbhaj.Init))∈A.I.set _ _
   exact List.mem_of_getElem? (i:=n.toNat - 1) (by rw[List.getElem?_set_self (List.getElem?_eq_some_iff.mp i1).1]))
  refine cI (aZ (lW (aa rfl) ig)) fun v H8 s8 lv=>d.go (r7.up s8) rfl ?_ lv
  exact(sx.trans (s5.trans s6)).fix.trans ((o9 k7 e0').trans s8.fix)
 ·have q:¬(Vbbhaj.initAt s n).job=0:=by simpa using q
  rw[if_neg q]at d
  have hx5:=hx4.up s5
  obtain⟨dx,ca,e0,c0⟩:=hx5.r.int _ (List.mem_of_getElem? i1)
  obtain⟨nx,e0'⟩:=bM e0
  obtain⟨nc,c0'⟩:=bM c0
  refine bT aJ (aa rfl) e0' T.bB T.cF (IV.few _) fun H6 k6 e6=>?_
  (try dsimp only)
  rw[IV.Cz]at e6
  have r6:=hx5.Cv (x':={Vbbhaj.initAt s n with draining:=true}) i1 k6 e0 (ca:=ca) e6 (k6 _ _ c0' (cB c0' e0' (by intro z;cases z))) nc
  have ig:nT T H6 a {Vbbhaj.initAt s n with draining:=true}:=r6.rep.int _ (by
   show(a,({Vbbhaj.initAt s n with draining:=true}:Vbbhaj.Init))∈A.I.set _ _
   exact List.mem_of_getElem? (i:=n.toNat - 1) (by rw[List.getElem?_set_self (List.getElem?_eq_some_iff.mp i1).1]))
  refine cI (aZ (lW (aa rfl) ig)) fun v H8 s8 lv=>d.go (r6.up s8) rfl ?_ lv
  exact(sx.trans s5).fix.trans ((o9 k6 e0').trans s8.fix)
end
end Jq
end
section
set_option Elab.async false
set_option linter.all false
set_option maxRecDepth 100000
set_option maxHeartbeats 1000000
namespace Jq
open PySem PySem.Spec PyProof.Rows L2
section
variable {P:Program}{w:World}{K:PySem.W.Frag}{mg:Str→Option Value}{base:Heap}
variable {σ:St}{H:Hp}{ta tb tc td:TE}{a:Addr}{j:Vbbhaj.Job}{A:Ad}{s:Vbbhaj.State}{T:Txt K mg}{X:Addr→Prop}
theorem W_{s:Vbbhaj.State}(iv:Inv s){n:Int}{f:Vbbhaj.Job→Vbbhaj.State×Vbbhaj.Ans}(h:pP s n≠0):(if Vbbhaj.isInit n=false then Vbbhaj.no s 1 else match Vbbhaj.jobAt s (Vbbhaj.initAt s n).job with | none=>Vbbhaj.no s 3 | some j=>f j)=(s,{num:=pP s n}):=by
 unfold pP at h ⊢
 by_cases h1:Vbbhaj.isInit n=false
 ·rw[if_pos h1,if_pos h1];rfl
 ·rw[if_neg h1]at h ⊢
  rw[if_neg h1]
  by_cases h2:(Vbbhaj.initAt s n).job=0
  ·rw[if_pos h2,h2]
   have:Vbbhaj.jobAt s ((0:Nat):Int)=none:=by
    cases e:Vbbhaj.jobAt s ((0:Nat):Int)with
    |none=>rfl
    |some j =>
     obtain⟨m,en⟩:=iJ e
     have:=iv.g.num j m
     omega
   rw[this]
   rfl
  ·rw[if_neg h2]at h;exact absurd rfl h
theorem Rj{s:Vbbhaj.State}(iv:Inv s){n:Int}(h:pP s n=0):Vbbhaj.isInit n=true∧∃j,Vbbhaj.jobAt s (Vbbhaj.initAt s n).job=some j∧j.status=.running:=by
 unfold pP at h
 cases h1:Vbbhaj.isInit n with
 |false=>rw[if_pos h1]at h;exact absurd h (by decide)
 |true =>
  rw[if_neg (nF h1)]at h
  by_cases h2:(Vbbhaj.initAt s n).job=0
  ·rw[if_pos h2]at h;exact absurd h (by decide)
  ·obtain⟨_,j,hj,e1,e2⟩:=iv.i.run _ (jA iv.g h1) h2
   exact⟨rfl,j,by rw[← e1];exact Jh iv.g.srt hj,e2⟩
theorem Ud(T:Txt K mg):bG P w K mg base CX0 3 T.ur.f T.ur.fd ["board","number"] (spC T (dI .requeue)):=by
 refine T.ur.F.ok yj (fun vs H Q E ⟨_,_,_,_,_,e,⟨_,e2,_⟩,_⟩=>by rw[e,e2];rfl) fun cdv A outer s H vs Q E hr hsp=>?_
 have hu:=eF hr
 refine⟨_,(ak (bu (i:=2) yj.nd rfl (Or.inl rfl) (aK T.cV (pK T) (by exact hr.mono (by decide)) rfl (aj (pv 0) (aj (pv 1) aq))))
   (ak (a_ (aR jr (pv 2) (bz T.aW rfl) (aQ _)) (az (aC (bc (aj (pv 2) aq)))) aL)
   (ak (bu (i:=3) yj.nd rfl (Or.inl rfl) (cM (by exact hu) (aD (K:=K) (pv 0) rfl) (pv 1) (fun _ _=>rfl)))
   (ak (bu (i:=4) yj.nd rfl (Or.inl rfl) (cM (by exact hu) (aD (K:=K) (pv 0) rfl) (aD (K:=K) (pv 3) rfl) (fun _ _=>rfl)))
   (ak (bF (pv 4) (bz T.mK rfl) rfl)
   (ak (bF (pv 4) kI rfl)
   (ak (iQ (aK T.fZ (xN T) (by exact hr.mono (by decide)) rfl (aj (pv 3) aq)))
   (az (aC (bc (aj (aD (K:=K) (pv 4) rfl) aq))))))))))),?_⟩
 obtain⟨X,A,s,c,rest,rfl,⟨n,rfl,rfl⟩,hx,iv,d⟩:=hsp
 have h:=hx.rep
 refine aN (iw (ug (aa rfl) (aa rfl) h iv) fun H1 s1=>?_)
 (try dsimp only)
 refine cU (aP (fM (aa rfl) aJ)) (fun q H2 s2=>?_) fun q H2 s2=>?_
 ·exact cI (aZ (aa rfl)) fun v H3 s3 l=>d.no hx (W_ iv (by simpa using jl q)) (s1.trans (s2.trans s3)) l
 have q:pP s n=0:=by simpa using q
 obtain⟨q1,j,hj,hrun⟩:=Rj iv q
 have d:Done T X H A (Vbbhaj.yes (Vbbhaj.setInit {s with jobs:=Vbbhaj.setJob s.jobs {j with status:=.waiting,held:=true}} n (Vbbhaj.without (Vbbhaj.initAt s n))) j.num) Q:=by
  have e:Vbbhaj.step s (.requeue n)=_:=if_neg (nF q1)
  rw[e]at d
  simp only[hj]at d
  exact d
 have hx2:=hx.up (s1.trans s2)
 have h2:=hx2.rep
 obtain⟨a,i1,i2,i3⟩:=iW h2 iv.g q1
 show m6 _ _ _ _ _
 refine aN (iw (fH (bU (aa rfl) h2) (aa rfl) h2.ini i2) fun H3 s3=>?_)
 (try dsimp only)
 have hx3:=hx2.up s3
 have h3:=hx3.rep
 obtain⟨b,m,e⟩:=h3.pair hj
 refine aN (iw (h3.get (cA (aa rfl) h3) (lW (aa rfl) (i3.up s3)) m e) fun H4 s4=>?_)
 (try dsimp only)
 have hx4:=hx3.up s4
 obtain⟨dx,na,ta,e4,n4,t4⟩:=hx4.r.job _ m
 refine aN (bT aJ (aa rfl) (bM e4).2 T.bQ T.lU (JV.few _) fun H5 k5 e5=>?_)
 rw[JV.Qs]at e5
 (try dsimp only)
 refine aN (bT aJ (aa rfl) e5 T.bQ T.oZ (JV.few _) fun H6 k6 e6=>?_)
 rw[JV.U_]at e6
 (try dsimp only)
 have h6:=hx4.Gk (j':={j with status:=.waiting,held:=true}) m (k5.trans k6) e4 n4 t4 (by
  rw[e6]
  unfold jv
  rw[hrun]
  rfl) rfl rfl rfl
 refine aN (o7 (aB (aa rfl) aV) fun H7 s7=>?_)
 refine⟨X,_,_,n.toNat - 1,a,Vbbhaj.initAt s n,rfl,h6.up s7,i1,fun H8 f8 r8=>?_⟩
 (try dsimp only)
 have mj:(b,({j with status:=.waiting,held:=true}:Vbbhaj.Job))∈(A.L.map fun p=>if p.2.num=({j with status:=.waiting,held:=true}:Vbbhaj.Job).num then (p.1,({j with status:=.waiting,held:=true}:Vbbhaj.Job))else p) :=
  List.mem_map.mpr ⟨(b,j),m,if_pos rfl⟩
 refine cI (aZ (gA (aa rfl) (r8.rep.job _ mj))) fun v H9 s9 lv=>d.go (r8.up s9) rfl ?_ lv
 exact(s1.trans (s2.trans (s3.trans s4))).fix.trans ((qL (k5.trans k6) (bM e4).2).trans (s7.fix.trans (f8.trans s9.fix)))
theorem Yq(s:Vbbhaj.State)(i ab c:Int):Vbbhaj.doFinish s i ab c=if (!Vbbhaj.inside ab 0 1||!Vbbhaj.inside c 0 4095)=true then Vbbhaj.no s 1 else if Vbbhaj.isInit i=false then Vbbhaj.no s 1 else match Vbbhaj.jobAt s (Vbbhaj.initAt s i).job with
  |none=>Vbbhaj.no s 3
  |some j=>Vbbhaj.told (Vbbhaj.setInit (Vbbhaj.ended s j (if ab=1 then .abend c.toNat else .code c.toNat)).1 i (Vbbhaj.without (Vbbhaj.initAt s i)),(Vbbhaj.ended s j (if ab=1 then .abend c.toNat else .code c.toNat)).2):=by
 unfold Vbbhaj.doFinish
 cases h1:Vbbhaj.isInit i<;>cases h2:Vbbhaj.inside ab 0 1<;>cases h3:Vbbhaj.inside c 0 4095<;>rfl
theorem Yg(T:Txt K mg):bG P w K mg base CX0 4 T.xJ.f T.xJ.fd ["board","number","abend","code"] (spC T (aba .finish)):=by
 refine T.xJ.F.ok xr (fun vs H Q E ⟨_,_,_,_,_,e,⟨_,_,_,e2,_⟩,_⟩=>by rw[e,e2];rfl) fun cdv A outer s H vs Q E hr hsp=>?_
 have hu:=eF hr
 refine⟨_,(ak (a_ (PW.pt (Hm (cD (bJ (aK T.gH (yM T) (by exact hr.mono (by decide)) rfl (aj (pv 2) aq)))) (Gj (cD (bJ (aK T.qY (Kz T) (by exact hr.mono (by decide)) rfl (aj (pv 3) aq))))))) (az (aC (bc (aj (bz T.bH rfl) aq)))) aL)
   (ak (bu (i:=4) xr.nd rfl (Or.inl rfl) (aK T.cV (pK T) (by exact hr.mono (by decide)) rfl (aj (pv 0) (aj (pv 1) aq))))
   (ak (a_ (aR jr (pv 4) (bz T.aW rfl) (aQ _)) (az (aC (bc (aj (pv 4) aq)))) aL)
   (ak (bu (i:=5) xr.nd rfl (Or.inl rfl) (cM (by exact hu) (aD (K:=K) (pv 0) rfl) (pv 1) (fun _ _=>rfl)))
   (ak (bu (i:=6) xr.nd rfl (Or.inl rfl) (Rv (aR dm (pv 2) aH (aQ _)) (bz T.jj rfl) (bz T.h_ rfl)))
   (ak (bu (i:=7) xr.nd rfl (Or.inl rfl) (aK T.qM (J8 T) (by exact hr.mono (by decide)) rfl (aj (aD (K:=K) (pv 0) rfl) (aj (cM (by exact hu) (aD (K:=K) (pv 0) rfl) (aD (K:=K) (pv 5) rfl) (fun _ _=>rfl)) (aj (pv 6) (aj (pv 3) aq))))))
   (ak (iQ (aK T.fZ (xN T) (by exact hr.mono (by decide)) rfl (aj (pv 5) aq)))
   (az (aC (jm qx (bc (aj (bR bC rfl T.iT gh (aj (pv 7) aq)) aq)) (aK T.dJ (fV T) (by exact hr.mono (by decide)) rfl (aj (pv 7) aq)))))))))))),?_⟩
 obtain⟨X,A,s,c,rest,rfl,⟨n,ab,c,rfl,rfl⟩,hx,iv,d⟩:=hsp
 have d:Done T X H A (Vbbhaj.doFinish s n ab c) Q:=d
 rw[Yq]at d
 refine cU (Hy (cC (fu (iV (aa rfl)))) fun _=>cC (fu (iV (aa rfl)))) (fun q H1 s1=>?_) fun q H1 s1=>?_
 ·exact cI (aZ aJ) fun v H3 s3 l=>d.no (n:=-1) hx (if_pos q) (s1.trans s3) l
 rw[if_neg (by rw[q];exact Bool.false_ne_true)]at d
 have q:(!Vbbhaj.inside ab 0 1||!Vbbhaj.inside c 0 4095)=false:=q
 simp only[Bool.or_eq_false_iff,Bool.not_eq_false']at q
 obtain⟨qa,qc⟩:=q
 have hx1:=hx.up s1
 have h1:=hx1.rep
 (try dsimp only)
 refine aN (iw (ug (aa rfl) (aa rfl) h1 iv) fun H2 s2=>?_)
 (try dsimp only)
 refine cU (aP (fM (aa rfl) aJ)) (fun q H3 s3=>?_) fun q H3 s3=>?_
 ·exact cI (aZ (aa rfl)) fun v H4 s4 l=>d.no hx (W_ iv (by simpa using jl q)) (s1.trans (s2.trans (s3.trans s4))) l
 have q:pP s n=0:=by simpa using q
 obtain⟨q1,j,hj,hrun⟩:=Rj iv q
 rw[if_neg (nF q1)]at d
 simp only[hj]at d
 have hx3:=hx1.up (s2.trans s3)
 have h3:=hx3.rep
 obtain⟨a,i1,i2,i3⟩:=iW h3 iv.g q1
 show m6 _ _ _ _ _
 refine aN (iw (fH (bU (aa rfl) h3) (aa rfl) h3.ini i2) fun H4 s4=>?_)
 (try dsimp only)
 generalize he:(if ab=1 then Vbbhaj.Ending.abend c.toNat else .code c.toNat)=e at d
 have cN:((c.toNat:Nat):Int)=c:=yq (lo:=0) (hi:=4095) qc (by decide)
 have hcd:JL (.ended e)=c:=by
  rw[← he]
  split<;>exact cN
 have hst:∀b:Bool,decide (ab=1)=b→(if b=true then V.int 3 else V.int 2)=.int (yN (.ended e)):=fun b hb=>by
  cases b with
  |true=>rw[← he,if_pos (of_decide_eq_true hb)];rfl
  |false=>rw[← he,if_neg (of_decide_eq_false hb)];rfl
 refine aN (iw (v:=.int (yN (.ended e))) (U6 (b:=decide (ab=1)) (aP (bY (aa rfl) aJ)) (fun q=>aJ.cast (hst true q)) fun q=>aJ.cast (hst false q)) fun H5 s5=>?_)
 (try dsimp only)
 have hx5:=hx3.up (s4.trans s5)
 have h5:=hx5.rep
 obtain⟨b,m,en⟩:=h5.pair hj
 refine aN (Gm (aB (cA (aa rfl) h5) (aB (h5.get (cA (aa rfl) h5) (lW (aa rfl) (i3.up (s4.trans s5))) m en) (aB (aa rfl) (aB (aa rfl) aV)))) fun H6 s6=>?_)
 have hlv:live j:=fun z q=>by rw[hrun]at q;cases q
 refine⟨X,A,s,b,j,_,c,e,rfl,hx5.up s6,iv.g,m,hlv,rfl,hcd,fun H7 L l fx r7 hl=>?_⟩
 (try dsimp only)
 refine aN (o7 (aB (aa rfl) aV) fun H8 s8=>?_)
 refine⟨X,_,_,n.toNat - 1,a,Vbbhaj.initAt s n,rfl,r7.up s8,i1,fun H9 f9 r9=>?_⟩
 (try dsimp only)
 have hl9:H9 l=some (.lst (pC (Vbbhaj.ended s j e).2)):=f9 _ _ (s8 _ _ hl) rfl
 have ef:=Av iv.g j e
 refine cI (BP ((aa rfl).toL hl9) ((aa rfl).toL hl9) (by rw[iR];omega)) fun v H10 s10 lv=>d.go (r9.up s10) rfl ?_ ?_
 ·exact(s1.trans (s2.trans (s3.trans (s4.trans (s5.trans s6))))).fix.trans (fx.fix.trans (s8.fix.trans (f9.trans s10.fix)))
 ·rw[(Rr _).2]
  rw[iR]at lv
  exact lv
def adE(T:Txt K mg):Sp:=fun vs H Q _=>∃X A s i a x b j,vs=[.ref a,.ref b]∧RX T X H A s∧A.I[i]?=some (a,x)∧(b,j)∈A.L∧j.status=.waiting ∧
 ∀H',Fix H H'→RX T X H' {A with L:=A.L.map fun p=>if p.2.num=j.num then (p.1,{j with status:=.running,passed:=0,due:=0})else p,I:=A.I.set i (a,{x with job:=j.num})} {s with jobs:=Vbbhaj.setJob s.jobs {j with status:=.running,passed:=0,due:=0},inits:=s.inits.set i {x with job:=j.num}}→Q .non H'
theorem Uw(T:Txt K mg):bG P w K mg base CX0 1 T.uv.f T.uv.fd ["initiator","job"] (adE T):=by
 refine T.uv.F.ok VF (fun vs H Q E ⟨_,_,_,_,_,_,_,_,e,_⟩=>by rw[e];rfl) fun cdv A outer s H vs Q E hr hsp=>⟨_,(ak (bF (pv 1) (bz T.nQ rfl) rfl)
   (ak (bF (pv 1) aH rfl)
   (ak (bF (pv 1) aH rfl)
   (az (bF (pv 0) (aD (K:=K) (pv 1) rfl) rfl))))),?_⟩
 obtain⟨X,A,s,i,a,x,b,j,rfl,hx,hi,m,hw,k⟩:=hsp
 obtain⟨dx,na,ta,e4,n4,t4⟩:=hx.r.job _ m
 refine aN (bT aJ (aa rfl) (bM e4).2 T.bQ T.lU (JV.few _) fun H5 k5 e5=>?_)
 rw[JV.Qs]at e5
 (try dsimp only)
 refine aN (bT aJ (aa rfl) e5 T.bQ T.gP (JV.few _) fun H6 k6 e6=>?_)
 rw[JV.Cw]at e6
 (try dsimp only)
 refine aN (bT aJ (aa rfl) e6 T.bQ T.eG (JV.few _) fun H7 k7 e7=>?_)
 rw[JV.wy]at e7
 (try dsimp only)
 have kj:Kp b H H7:=k5.trans (k6.trans k7)
 have r7:=hx.Gk (j':={j with status:=.running,passed:=0,due:=0}) m kj e4 n4 t4 (by
  rw[e7]
  unfold jv
  rw[hw]
  rfl) rfl rfl rfl
 have mj:(b,({j with status:=.running,passed:=0,due:=0}:Vbbhaj.Job))∈(A.L.map fun p=>if p.2.num=({j with status:=.running,passed:=0,due:=0}:Vbbhaj.Job).num then (p.1,({j with status:=.running,passed:=0,due:=0}:Vbbhaj.Job))else p) :=
  List.mem_map.mpr ⟨(b,j),m,if_pos rfl⟩
 obtain⟨dx2,ca,e0,c0⟩:=r7.r.int _ (List.mem_of_getElem? hi)
 obtain⟨nx,e0'⟩:=bM e0
 obtain⟨nc,c0'⟩:=bM c0
 refine bT (gA (aa rfl) (r7.rep.job _ mj)) (aa rfl) e0' T.bB T.fj (IV.few _) fun H8 k8 e8=>?_
 (try dsimp only)
 rw[IV.U0]at e8
 have r8:=r7.Cv (x':={x with job:=j.num}) hi k8 e0 (ca:=ca) e8 (k8 _ _ c0' (cB c0' e0' (by intro z;cases z))) nc
 exact k H8 ((qL kj (bM e4).2).trans (o9 k8 e0')) r8
theorem O8(l:List Vbbhaj.Job){j1 j2:Vbbhaj.Job}(e:j1.num=j2.num):Vbbhaj.setJob (Vbbhaj.setJob l j1) j2=Vbbhaj.setJob l j2:=by
 unfold Vbbhaj.setJob
 rw[List.map_map]
 refine List.map_congr_left fun x _=>?_
 show(if (if x.num=j1.num then j1 else x).num=j2.num then j2 else (if x.num=j1.num then j1 else x))=_
 by_cases h:x.num=j1.num
 ·rw[if_pos h,if_pos e,if_pos (h.trans e)]
 ·rw[if_neg h]
def acy(T:Txt K mg):Sp:=fun vs H Q _=>∃X A s l,∃F:List (Addr×Vbbhaj.Job),vs=[.ref A.b,.ref l]∧RX T X H A s∧H l=some (.lst (refs F))∧cW (F.map (·.2))∧(∀p∈F,p∈A.L) ∧
 ∀H' L,Fix H H'→RX T X H' {A with L:=L} {s with stamp:=(poF s.passes (F.map (·.2)) s.stamp s.jobs).1,jobs:=(poF s.passes (F.map (·.2)) s.stamp s.jobs).2}→(∀p∈A.L,(∀q∈F,q.2.num≠p.2.num)→p∈L)→Q .non H'
theorem QH(T:Txt K mg):bG P w K mg base CX0 2 T.o_.f T.o_.fd ["board","jobs"] (acy T):=by
 refine T.o_.F.ok Fd (fun vs H Q E ⟨_,_,_,_,_,e,_⟩=>by rw[e];rfl) fun cdv A outer s H vs Q E hr hsp=>?_
 have hu:=eF hr
 refine⟨_,(az (tK PassesOwn.never rfl (cY (pv 1)) (bL (i:=2) Fd.nd rfl (Or.inl rfl)) (ak (uE (pv 2) aH G4)
   (az (a_ (PW.pt (Jz (cD (bJ (aK T.lN (uB T) (by exact hr.mono (by decide)) rfl (aj (pv 2) aq)))) (Fi (aR Xb (aD (K:=K) (pv 2) rfl) (aD (K:=K) (pv 0) rfl) (aQ _))))) (ak (uE (pv 0) aH G4)
   (az (bF (pv 2) (aD (K:=K) (pv 0) rfl) rfl))) aL))))),?_⟩
 obtain⟨X,A,s,l,F,rfl,hx,hl,hs,hm,k⟩:=hsp
 refine Tg (K:=K) (xs:=refs F) (R:=IsL (refs F)) ((aa rfl).toL hl) (fun _ _ e=>e) fun l0 H3 s3 rn hl0=>⟨fun i σ' H'=>(∃o2,σ'=[some (.ref A.b),some (.ref l),o2])∧Fix H3 H'∧∃L,RX T X H' {A with L:=L} {s with stamp:=(poF s.passes ((F.take i).map (·.2)) s.stamp s.jobs).1,jobs:=(poF s.passes ((F.take i).map (·.2)) s.stamp s.jobs).2}∧∀p∈A.L,(∀q∈F.take i,q.2.num≠p.2.num)→p∈L,?_,?_,?_,?_⟩
 ·exact⟨⟨_,rfl⟩,Fix.refl _,A.L,hx.up s3,fun p hp _=>hp⟩
 ·rintro i σ' H' _ ⟨_,f,_⟩
  exact f _ _ hl0 rfl
 ·rintro i x σ' H' hx' ⟨⟨o2,rfl⟩,fx,L,rx,hk⟩
  unfold refs at hx'
  rw[List.getElem?_map]at hx'
  obtain⟨⟨b,y⟩,hy,rfl⟩:∃p,F[i]?=some p∧V.ref p.1=x:=by
   cases q:F[i]? with
   |none=>rw[q]at hx';cases hx'
   |some p=>rw[q]at hx';exact⟨p,rfl,Option.some.inj hx'⟩
  have hmF:=List.mem_of_getElem? hy
  have htk:F.take (i+1)=F.take i++[(b,y)]:=q_ hy
  have hlt:∀q∈F.take i,q.2.num<y.num:=fun q hq=>by
   have hil:i<F.length:=(List.getElem?_eq_some_iff.mp hy).1
   have e:F=F.take i++(b,y)::F.drop (i+1):=by
    conv=>lhs;rw[← List.take_append_drop i F,List.drop_eq_getElem_cons hil,(List.getElem?_eq_some_iff.mp hy).2]
   rw[e,List.map_append,List.map_cons]at hs
   exact(List.pairwise_append.mp hs).2.2 q.2 (List.mem_map_of_mem (f:=(·.2)) hq) y List.mem_cons_self
  have my:(b,y)∈L:=hk _ (hm _ hmF) fun q hq=>by have:=hlt q hq;show q.2.num≠y.num;omega
  generalize hst:(poF s.passes ((F.take i).map (·.2)) s.stamp s.jobs).1=st at rx
  generalize hjs:(poF s.passes ((F.take i).map (·.2)) s.stamp s.jobs).2=js at rx
  have es:poF s.passes ((F.take (i+1)).map (·.2)) s.stamp s.jobs=(poS s.passes y st,Vbbhaj.setJob js (po1 s.passes y st)):=by
   rw[htk,List.map_append]
   show poF s.passes ((F.take i).map (·.2)++[y]) s.stamp s.jobs=_
   rw[Q4,hst,hjs]
  have fin:∀{H5:Hp} {o2:Option V} {L':List (Addr×Vbbhaj.Job)},RX T X H5 {A with L:=L'} {s with stamp:=poS s.passes y st,jobs:=Vbbhaj.setJob js (po1 s.passes y st)}→(∀p∈L,p.2.num≠y.num→p∈L')→Fix H3 H5 →
    (∃p2,[some (V.ref A.b),some (.ref l),o2]=[some (V.ref A.b),some (.ref l),p2])∧Fix H3 H5∧∃L,RX T X H5 {A with L:=L} {s with stamp:=(poF s.passes ((F.take (i+1)).map (·.2)) s.stamp s.jobs).1,jobs:=(poF s.passes ((F.take (i+1)).map (·.2)) s.stamp s.jobs).2}∧∀p∈A.L,(∀q∈F.take (i+1),q.2.num≠p.2.num)→p∈L:=by
   intro H5 o2 L' r5 h5 f5
   rw[es]
   refine⟨⟨_,rfl⟩,f5,L',r5,fun p hp hq=>h5 p (hk p hp fun q hq'=>hq q (by rw[htk];exact List.mem_append_left _ hq')) fun z=>?_⟩
   exact hq (b,y) (by rw[htk];simp) z.symm
  show m6 _ _ _ _ _
  obtain⟨dx,na,ta,e4,n4,t4⟩:=rx.r.job _ my
  refine aN (FQ aJ (aa rfl) (bM e4).2 T.bQ T.eG (JV.few _) (JV.BK _) fun H5 k5 e5=>?_)
  rw[JV.wy]at e5
  (try dsimp only)
  have r5:=rx.Gk (j':={y with passed:=y.passed+1}) my k5 e4 n4 t4 (by rw[e5];unfold jv;rfl) rfl rfl rfl
  have f5:=qL k5 (bM e4).2
  have mj:(b,({y with passed:=y.passed+1}:Vbbhaj.Job))∈(L.map fun p=>if p.2.num=({y with passed:=y.passed+1}:Vbbhaj.Job).num then (p.1,({y with passed:=y.passed+1}:Vbbhaj.Job))else p) :=
   List.mem_map.mpr ⟨(b,y),my,if_pos rfl⟩
  have keep:∀{j':Vbbhaj.Job},j'.num=y.num→∀{L:List (Addr×Vbbhaj.Job)},∀p∈L,p.2.num≠y.num→p∈(L.map fun p=>if p.2.num=j'.num then (p.1,j')else p):=fun e L p hp hn=>List.mem_map.mpr ⟨p,hp,if_neg (by rw[e];exact hn)⟩
  have jb:=r5.rep.job _ mj
  refine En (b:=!decide (y.due≠0)&&decide ((s.passes:Int)≤((y.passed+1:Nat):Int))) (EvT.cast (Jg (cC (fu (nW (aa rfl) jb))) fun _=>aP (eY (wX (aa rfl) jb) (acY (A:={A with L:=L.map fun p=>if p.2.num=({y with passed:=y.passed+1}:Vbbhaj.Job).num then (p.1,({y with passed:=y.passed+1}:Vbbhaj.Job))else p}) (aa rfl) r5.rep))) rfl) (fun q H6 s6=>?_) fun q H6 s6=>?_
  ·have q:y.due=0∧s.passes≤y.passed+1:=by
    simp only[Bool.and_eq_true,decide_eq_true_eq,Bool.not_eq_true',decide_eq_false_iff_not]at q
    omega
   have r6:=r5.up s6
   obtain⟨dxb,eb⟩:=r6.r.brd
   obtain⟨nxb,eb'⟩:=bM eb
   show m6 _ _ _ _ _
   refine aN (FQ aJ (aa rfl) eb' T.bN T.fc (BV.few _) (BV.yJ _) fun H7 k7 e7=>?_)
   rw[BV.yF]at e7
   (try dsimp only)
   have r7:RX T X H7 _ {s with stamp:=st+1,jobs:=Vbbhaj.setJob js {y with passed:=y.passed+1}}:=⟨r6.r.VV k7.hid (s':={s with stamp:=st+1,jobs:=Vbbhaj.setJob js {y with passed:=y.passed+1}}) (by
    rw[cu nxb,e7]
    unfold bv
    rw[show((st+1:Nat):Int) - 1=(st:Int) - 1+1 by omega]) rfl rfl rfl,r6.keep k7 nxb⟩
   obtain⟨dx8,na8,ta8,e8,n8,t8⟩:=r7.r.job _ mj
   refine bT ((CW (A:={A with L:=L.map fun p=>if p.2.num=({y with passed:=y.passed+1}:Vbbhaj.Job).num then (p.1,({y with passed:=y.passed+1}:Vbbhaj.Job))else p}) (aa rfl) r7.rep).cast (w:=.int (st:Nat)) (by show V.int (((st+1:Nat):Int) - 1)=_;congr 1;omega)) (aa rfl) (bM e8).2 T.bQ T.gP (JV.few _) fun H9 k9 e9=>?_
   (try dsimp only)
   rw[JV.Cw]at e9
   have r9:=r7.Gk (j':={y with passed:=y.passed+1,due:=st}) mj k9 e8 n8 t8 (by rw[e9];unfold jv;rfl) rfl rfl rfl
   have e1:po1 s.passes y st={y with passed:=y.passed+1,due:=st}:=by unfold po1;rw[if_pos q]
   have e2:poS s.passes y st=st+1:=if_pos q
   refine fin (L':=((L.map fun p=>if p.2.num=y.num then (p.1,({y with passed:=y.passed+1}:Vbbhaj.Job))else p).map fun p=>if p.2.num=y.num then (p.1,({y with passed:=y.passed+1,due:=st}:Vbbhaj.Job))else p)) (by
    rw[e1,e2]
    have:=r9
    rw[show Vbbhaj.setJob (Vbbhaj.setJob js {y with passed:=y.passed+1}) {y with passed:=y.passed+1,due:=st}=Vbbhaj.setJob js {y with passed:=y.passed+1,due:=st}from O8 js rfl]at this
    exact this) (fun p hp hn=>keep (j':={y with passed:=y.passed+1,due:=st}) rfl p (keep (j':={y with passed:=y.passed+1}) rfl p hp hn) hn) (fx.trans (f5.trans (s6.fix.trans ((k7.fix eb' (Iu _ _ _)).trans (qL k9 (bM e8).2)))))
  ·have q:¬(y.due=0∧s.passes≤y.passed+1):=fun z=>by
    simp only[Bool.and_eq_false_iff,decide_eq_false_iff_not,Bool.not_eq_false',decide_eq_true_eq]at q
    omega
   have e1:po1 s.passes y st={y with passed:=y.passed+1}:=by unfold po1;rw[if_neg q]
   have e2:poS s.passes y st=st:=if_neg q
   refine fin (L':=(L.map fun p=>if p.2.num=y.num then (p.1,({y with passed:=y.passed+1}:Vbbhaj.Job))else p)) (by rw[e1,e2];exact r5.up s6) (fun p hp hn=>keep (j':={y with passed:=y.passed+1}) rfl p hp hn) (fx.trans (f5.trans s6.fix))
 ·rintro σ' H' ⟨⟨o2,rfl⟩,fx,L,rx,hk⟩
  have hlen:(refs F).length=F.length:=by unfold refs;rw[List.length_map]
  rw[hlen,List.take_length]at rx hk
  exact k H' L (s3.fix.trans fx) rx hk
end
end Jq
end
section
set_option Elab.async false
set_option linter.all false
set_option maxRecDepth 100000
set_option maxHeartbeats 1000000
namespace Jq
open PySem PySem.Spec PyProof.Rows L2
section
variable {P:Program}{w:World}{K:PySem.W.Frag}{mg:Str→Option Value}{base:Heap}
variable {σ:St}{H:Hp}{ta tb tc td:TE}{a:Addr}{j:Vbbhaj.Job}{A:Ad}{s:Vbbhaj.State}{T:Txt K mg}{X:Addr→Prop}{D:Ends}
theorem XM{to te:TE}{l b:Addr}{xs zs:List V}(ho:Ev to σ H (.ref l))(he:Ev te σ H (.ref b))(hl:H l=some (.lst xs))(hb:H b=some (.tup zs))(hz:xs.length+zs.length≤sizeLine)
  (k:∀H',Kp l H H'→H' l=some (.lst (xs++zs))→D.nx σ H'):Od (tBM K "list" Tp to (bw te eV)) D σ H :=
 Ev.use ho fun H1 s1=>⟨.inl ⟨rfl,_,SqL.of (s1 _ _ hl)⟩,Ev.use (he.up s1) fun H2 s2=>⟨l,b,xs,zs,rfl,rfl,s2 _ _ (s1 _ _ hl),s2 _ _ (s1 _ _ hb),hz,k _ (((s1.trans s2).kp l).trans (Kp.upd l H2 _)) aX⟩⟩
theorem Tw{to te:TE}{l:Addr}{xs zs:List V}(ho:Ev to σ H (.ref l))(he:EvL te σ H zs)(hl:H l=some (.lst xs))(hz:xs.length+zs.length≤sizeLine)
  (k:∀H',Kp l H H'→H' l=some (.lst (xs++zs))→D.nx σ H'):Od (tBM K "list" Wj to (bw te eV)) D σ H :=
 Ev.use ho fun H1 s1=>⟨.inl ⟨rfl,_,SqL.of (s1 _ _ hl)⟩,EvP.use (he.up s1) fun v H2 s2 ⟨b,e,hb⟩=>⟨l,b,xs,zs,rfl,by rw[e],s2 _ _ (s1 _ _ hl),hb,hz,k _ (((s1.trans s2).kp l).trans (Kp.upd l H2 _)) aX⟩⟩
def t3(t:Int×Int×Int):List V:=[.int t.1,.int t.2.1,.int t.2.2]
theorem aay(ts:List Vbbhaj.Test):(ts.map tri).flatMap t3=pC (ts.flatMap fun t=>[t.job,t.kind,t.n]):=by
 induction ts with
 |nil=>rfl
 |cons t r ih =>
  rw[List.map_cons,List.flatMap_cons,List.flatMap_cons,ih]
  unfold pC
  rw[List.map_append]
  rfl
theorem Zh(l:List (Int×Int×Int)):(l.flatMap t3).length=3 * l.length:=by
 induction l with
 |nil=>rfl
 |cons t r ih=>rw[List.flatMap_cons,List.length_append,ih,List.length_cons];show 3+_=_;omega
theorem LK(T:Txt K mg):bG P w K mg base CX0 3 T.mQ.f T.mQ.fd ["board","number"] (ro (gQ1 T .tests)):=by
 refine cO T.mQ.F nJ (fun vs H R ⟨_,_,_,e,_⟩=>by rw[e];rfl) fun cdv A outer s H E hr=>?_
 have hu:=eF hr
 refine⟨_,(ak (bu (i:=2) nJ.nd rfl (Or.inl rfl) (aK T.cR (g8 T) (by exact hr.mono (by decide)) rfl (aj (pv 0) (aj (pv 1) aq))))
   (ak (a_ (aR jr (pv 2) (bz T.aW rfl) (aQ _)) (az (aC (bc (aj (pv 2) aq)))) aL)
   (ak (bu (i:=3) nJ.nd rfl (Or.inl rfl) (aD (K:=K) (cM (by exact hu) (aD (K:=K) (pv 0) rfl) (pv 1) (fun _ _=>rfl)) rfl))
   (ak (bu (i:=4) nJ.nd rfl (Or.inl rfl) (bc aq))
   (ak (tK PassesOwn.never rfl (cY (pv 3)) (bL (i:=5) nJ.nd rfl (Or.inl rfl)) (az (iQ (M_ PySem.F.plainAttrs_list PySem.F.slot_list_extend PySem.F.type_list_extend V4 (pv 4) (aj (pv 5) aq)))))
   (az (aC (jm qx (bc (aj (bR bC rfl T.iT gh (aj (pv 3) aq)) aq)) (aK T.dJ (fV T) (by exact hr.mono (by decide)) rfl (aj (pv 4) aq)))))))))),?_⟩
 rintro vs R ⟨A,s,n,rfl,h,iv,rfl⟩
 refine pW (xx (aa rfl) (aa rfl) h) ?_
 refine d7 (aP (fM (aa rfl) aJ)) (fun q=>aU ((aZ (aa rfl)).cast ?_)) fun q=>?_
 ·have e:Vbbhaj.step s (.tests n)=_:=yX (vm.mp (jl q))
  rw[e];rfl
 have q:fL s n=0:=by simpa using q
 obtain⟨j,hj,hf⟩:=qK q
 obtain⟨a,m,e⟩:=h.pair hj
 have hstep:Vbbhaj.step s (.tests n)=_:=hf _
 rw[hstep]
 have v0:Ev (b8 0) ((start ["board","number","refusal","tests","row","test"] [V.ref A.b,.int n]).set 2 (some (.int (fL s n)))) H (.ref A.b):=aa rfl
 have v1:Ev (b8 1) ((start ["board","number","refusal","tests","row","test"] [V.ref A.b,.int n]).set 2 (some (.int (fL s n)))) H (.int n):=aa rfl
 obtain⟨l,hl,ps,ep,htr⟩:=Kc (h.get (cA v0 h) v1 m e) (h.job _ m)
 refine pW hl ?_
 have hlen:ps.length=j.tests.length:=GD ep
 have hfew:ps.length≤8:=by rw[hlen];exact(iv.g.ok j (wO h m)).few
 intro H1 s1 D k
 have ht1:=wD _ _ _ s1 htr
 obtain⟨l',e',hl1,hp1⟩:=id ht1
 cases e'
 refine aN (uY (yo aV (Nat.zero_le _)) ?_)
 rintro v H2 s2 ⟨lr,rfl,n2,hr2⟩
 (try dsimp only)
 have nl:l≠lr:=fun z=>by rw[z,n2]at hl1;cases hl1
 have el:EvP (b8 3) [some (.ref A.b),some (.int n),some (.int (fL s n)),some (.ref l),some (.ref lr),none] H2 (fun v H'=>v=.ref l∧H' l=some (.lst (ps.map fun p=>V.ref p.1))):=(aa (v:=.ref l) rfl).imp fun v H' s' e=>⟨e,s' _ _ (s2 _ _ hl1)⟩
 refine aN (Tg (K:=K) (xs:=ps.map fun p=>V.ref p.1) el (fun _ _ e=>⟨l,e⟩) fun l0 H3 s3 rn hl0=>⟨fun i σ' H'=>(∃o5,σ'=[some (.ref A.b),some (.int n),some (.int (fL s n)),some (.ref l),some (.ref lr),o5])∧Kp lr H3 H'∧H' lr=some (.lst (((ps.take i).map (·.2)).flatMap t3)),?_,?_,?_,?_⟩)
 ·exact⟨⟨_,rfl⟩,Kp.refl _ _,s3 _ _ hr2⟩
 ·rintro i σ' H' _ ⟨_,kp,_⟩
  obtain⟨e9,_⟩:=rn
  cases e9
  exact kp _ _ hl0 nl
 ·rintro i x σ' H' hx' ⟨⟨o5,rfl⟩,kp,hr'⟩
  rw[List.getElem?_map]at hx'
  obtain⟨p,hy,rfl⟩:∃p,ps[i]?=some p∧V.ref p.1=x:=by
   cases q:ps[i]? with
   |none=>rw[q]at hx';cases hx'
   |some p=>rw[q]at hx';exact⟨p,rfl,Option.some.inj hx'⟩
  have mp:=List.mem_of_getElem? hy
  have hp3:H3 p.1=some (.tup (t3 p.2)):=s3 _ _ (s2 _ _ (hp1 p mp))
  have npl:p.1≠lr:=cB hp3 (s3 _ _ hr2) (by intro z;cases z)
  have hil:i<ps.length:=(List.getElem?_eq_some_iff.mp hy).1
  refine XM (aa rfl) (aa rfl) hr' (kp _ _ hp3 npl) ?_ fun H5 k5 e5=>⟨⟨_,rfl⟩,kp.trans k5,?_⟩
  ·rw[Zh,List.length_map,List.length_take]
   show _+3≤_
   exact sU (by omega)
  ·rw[e5,q_ hy,List.map_append,List.flatMap_append]
   simp only[List.map_cons,List.map_nil,List.flatMap_cons,List.flatMap_nil,List.append_nil]
 ·rintro σ' H' ⟨⟨o5,rfl⟩,kp,hr'⟩
  rw[List.length_map,List.take_length,ep,aay]at hr'
  (try dsimp only)
  have hl':H' l=some (.lst (ps.map fun p=>V.ref p.1)):=kp _ _ (s3 _ _ (s2 _ _ hl1)) nl
  have hrl:(pC (j.tests.flatMap fun t=>[t.job,t.kind,t.n])).length≤24:=by rw[← aay,Zh,List.length_map];omega
  refine cI (mC (aZ (lY (n:=j.tests.length) ((aa rfl).toL hl') (by rw[List.length_map,hlen]))) (gJ (xs:=pC (j.tests.flatMap fun t=>[t.job,t.kind,t.n])) ((aa rfl).toL hr') (iB (by omega))) (sU (by simp only[List.length_cons,List.length_nil];omega))) fun v H6 s6 lv=>k v H6 ?_ ?_
  ·intro b o eb
   have hb:b≠lr:=fun z=>by rw[z,n2]at eb;cases eb
   exact s6 _ _ (kp _ _ (s3 _ _ (s2 _ _ eb)) hb)
  ·have e2:wu (Vbbhaj.yes s j.tests.length [j.tests.flatMap fun t=>[t.job,t.kind,t.n]]).2=_:=Ks ((j.tests.length:Nat):Int) _
   rw[e2]
   rw[iR]at lv
   exact lv
theorem Og{α:Type}(f:α→V):∀(l:List α) (n:Nat),(fY f n l).map (·.1)=((List.range l.length).map fun i:Nat=>((n+i:Nat):Int)).map (Sum.inl:Int→Key)
 |[],n=>rfl
 |x::r,n=>by
  show Sum.inl (n:Int)::(fY f (n+1) r).map (·.1)=_
  rw[Og f r (n+1),List.length_cons,List.range_succ_eq_map,List.map_cons,List.map_cons,List.map_map,List.map_map,List.map_map]
  congr 1
  refine List.map_congr_left fun i _=>?_
  show Sum.inl ((n+1+i:Nat):Int)=Sum.inl ((n+(i+1):Nat):Int)
  rw[show n+1+i=n+(i+1)by omega]
def Gx(s:Vbbhaj.State)(i:Nat):List Nat:=if 0<(s.inits.getD i {}).job then [i+1,(s.inits.getD i {}).job]else []
theorem Ji(s:Vbbhaj.State)(l:List Nat):(l.filter fun i=>decide (0<(s.inits.getD i {}).job)).flatMap (fun i=>[i+1,(s.inits.getD i {}).job])=l.flatMap (Gx s):=by
 induction l with
 |nil=>rfl
 |cons i r ih =>
  rw[List.flatMap_cons,List.filter_cons]
  unfold Gx at ih ⊢
  by_cases h:0<(s.inits.getD i {}).job
  ·rw[if_pos (by simpa using h),List.flatMap_cons,ih,if_pos h]
  ·rw[if_neg (by simpa using h),ih,if_neg h,List.nil_append]
theorem Iz(s:Vbbhaj.State)(l:List Nat):(l.flatMap (Gx s)).length=2 * (l.filter fun i=>decide (0<(s.inits.getD i {}).job)).length:=by
 rw[← Ji]
 induction (l.filter fun i=>decide (0<(s.inits.getD i {}).job))with
 |nil=>rfl
 |cons i r ih=>rw[List.flatMap_cons,List.length_append,ih];show 2+2 * r.length=2 * (r.length+1);omega
theorem HQ(T:Txt K mg):bG P w K mg base CX0 2 T.jh.f T.jh.fd ["board"] (ro (gQ0 T .running)):=by
 refine cO T.jh.F n6 (fun vs H R ⟨_,_,e,_⟩=>by rw[e];rfl) fun cdv A outer s H E hr=>?_
 have hu:=eF hr
 refine⟨_,(ak (bu (i:=1) n6.nd rfl (Or.inl rfl) (bc aq))
   (ak (tK PassesOwn.never rfl (cY (bR (xV rfl) rfl T.uX xj (aj (aD (K:=K) (pv 0) rfl) aq))) (bL (i:=2) n6.nd rfl (Or.inl rfl)) (ak (bu (i:=3) n6.nd rfl (Or.inl rfl) (aD (K:=K) (cM (by exact hu) (aD (K:=K) (pv 0) rfl) (pv 2) (fun _ _=>rfl)) rfl))
   (az (a_ (aR jr (pv 3) aH (aQ _)) (az (iQ (M_ PySem.F.plainAttrs_list PySem.F.slot_list_extend PySem.F.type_list_extend Oi (pv 1) (aj (bc (aj (pv 2) (aj (pv 3) aq))) aq)))) aL))))
   (az (aC (jm qx (bc (aj (jm QT (bR bC rfl T.iT gh (aj (pv 1) aq)) aH) aq)) (aK T.dJ (fV T) (by exact hr.mono (by decide)) rfl (aj (pv 1) aq))))))),?_⟩
 rintro vs R ⟨A,s,rfl,h,iv,rfl⟩
 have hI:A.I.length=16:=by rw[← iv.g.Ie,← h.is,List.length_map]
 intro H1 s1 D k
 have h1:=h.up s1
 refine aN (uY (yo aV (Nat.zero_le _)) ?_)
 rintro v H2 s2 ⟨lr,rfl,n2,hr2⟩
 (try dsimp only)
 have h2:=h1.up s2
 have hk:=Og (fun p:Addr×Vbbhaj.Init=>V.ref p.1) A.I 1
 have hrise:((List.range A.I.length).map fun i:Nat=>((1+i:Nat):Int)).Pairwise (·<·):=by
  rw[List.pairwise_map]
  exact List.pairwise_lt_range.imp fun h=>by omega
 refine aN (Tg (K:=K) (Ht (a:=A.di) (bU (aa rfl) h2) h2.ini hk hrise) (fun _ _=>IsN.l) fun l0 H3 s3 rn hl0=>⟨fun i σ' H'=>(∃o2 o3,σ'=[some (.ref A.b),some (.ref lr),o2,o3])∧Kp lr H3 H'∧H' lr=some (.lst (pC ((List.range i).flatMap (Gx s)))),?_,?_,?_,?_⟩)
 ·exact⟨⟨_,_,rfl⟩,Kp.refl _ _,s3 _ _ hr2⟩
 ·rintro i σ' H' _ ⟨_,kp,_⟩
  obtain⟨_,e9,n9,_⟩:=rn
  cases e9
  exact kp _ _ hl0 fun z=>by rw[z,hr2]at n9;cases n9
 ·rintro i x σ' H' hx' ⟨⟨o2,o3,rfl⟩,kp,hr'⟩
  rw[List.map_map,List.getElem?_map]at hx'
  have hil:i<A.I.length:=by
   cases q:(List.range A.I.length)[i]? with
   |none=>rw[q]at hx';cases hx'
   |some p=>have:=(List.getElem?_eq_some_iff.mp q).1;rw[List.length_range]at this;exact this
  rw[List.getElem?_range hil]at hx'
  have hx':x=.int ((1+i:Nat):Int):=(Option.some.inj hx').symm
  subst hx'
  have sk:∀b o,H1 b=some o→H' b=some o:=fun b o eb=>kp _ _ (s3 _ _ (s2 _ _ eb)) fun z=>by rw[z,n2]at eb;cases eb
  have h':=h1.up sk
  obtain⟨⟨ai,xi⟩,hai⟩:∃p,A.I[i]?=some p:=⟨_,List.getElem?_eq_getElem hil⟩
  have e2:=xG (fun p:Addr×Vbbhaj.Init=>V.ref p.1) A.I 1 i _ hai
  have i3:=h'.int _ (List.mem_of_getElem? hai)
  have exi:s.inits.getD i {}=xi:=by
   rw[← h.is,List.getD_eq_getElem?_getD,List.getElem?_map,hai]
   rfl
  have hi16:i<16:=by omega
  have len':(pC ((List.range i).flatMap (Gx s))).length≤32:=by
   rw[iR,Iz]
   have:=List.length_filter_le (fun i=>decide (0<(s.inits.getD i {}).job)) (List.range i)
   rw[List.length_range]at this
   omega
  show m6 _ _ _ _ _
  refine aN (iw (lW (fH (bU (aa rfl) h') (aa rfl) h'.ini e2) i3) fun H5 s5=>?_)
  (try dsimp only)
  have er:(List.range (i+1)).flatMap (Gx s)=(List.range i).flatMap (Gx s)++Gx s i:=by
   rw[List.range_succ,List.flatMap_append]
   simp only[List.flatMap_cons,List.flatMap_nil,List.append_nil]
  refine En (aP (fM (aa rfl) aJ)) (fun q H6 s6=>?_) fun q H6 s6=>?_
  ·have q:xi.job≠0:=by have:=jl q;simpa using this
   refine Tw (aa rfl) (xY (aB (aa rfl) (aB (aa rfl) aV)) (by show 2≤sizeLine;decide)) (s6 _ _ (s5 _ _ hr')) ?_ fun H7 k7 e7=>⟨⟨_,_,rfl⟩,kp.trans (((s5.trans s6).kp lr).trans k7),?_⟩
   ·show _+2≤_
    exact sU (by omega)
   ·rw[e7,er]
    unfold pC
    rw[List.map_append]
    unfold Gx
    rw[exi,if_pos (by omega),show 1+i=i+1 by omega]
    rfl
  ·have q:xi.job=0:=by simpa using q
   refine⟨⟨_,_,rfl⟩,kp.trans ((s5.trans s6).kp lr),?_⟩
   rw[er]
   unfold Gx
   rw[exi,if_neg (by omega),List.append_nil]
   exact s6 _ _ (s5 _ _ hr')
 ·rintro σ' H' ⟨⟨o2,o3,rfl⟩,kp,hr'⟩
  rw[List.length_map,List.length_map,List.length_range,hI]at hr'
  (try dsimp only)
  have len':(pC ((List.range 16).flatMap (Gx s))).length=2 * ((List.range 16).filter fun i=>decide (0<(s.inits.getD i {}).job)).length:=by rw[iR,Iz]
  have lf:((List.range 16).filter fun i=>decide (0<(s.inits.getD i {}).job)).length≤16:=by
   have:=List.length_filter_le (fun i=>decide (0<(s.inits.getD i {}).job)) (List.range 16)
   rw[List.length_range]at this
   exact this
  refine cI (mC (aZ (Io (i:=((pC ((List.range 16).flatMap (Gx s))).length:Nat)) (j:=2) (zR ((aa rfl).toL hr')) aJ (by first | exact⟨by omega,by omega⟩ | omega))) (gJ ((aa rfl).toL hr') (iB (by omega))) (sU (by simp only[List.length_cons,List.length_nil];omega))) fun v H6 s6 lv=>k v H6 ?_ ?_
  ·intro b o eb
   have hb:b≠lr:=fun z=>by rw[z,n2]at eb;cases eb
   exact s6 _ _ (kp _ _ (s3 _ _ (s2 _ _ eb)) hb)
  ·have e2:wu (Vbbhaj.step s .running).2=_:=Ks ((((List.range 16).filter fun i=>decide (0<(s.inits.getD i {}).job)).length:Nat):Int) ((((List.range 16).filter fun i=>decide (0<(s.inits.getD i {}).job))).flatMap fun i=>[i+1,(s.inits.getD i {}).job])
   rw[e2,Ji]
   rw[iR]at lv
   refine lv.imp fun b hb=>⟨hb.1,hb.2.trans ?_⟩
   have e3:((((List.range 16).flatMap (Gx s)).length:Nat):Int) / 2=((((List.range 16).filter fun i=>decide (0<(s.inits.getD i {}).job)).length:Nat):Int):=by rw[Iz];omega
   rw[e3]
   rfl
end
end Jq
end
section
set_option Elab.async false
set_option linter.all false
set_option maxRecDepth 100000
set_option maxHeartbeats 1000000
namespace Jq
open PySem PySem.Spec PyProof.Rows L2
theorem BV.Y4(v:BV):v.fs.lookup ("renew" : Str)=none:=aF (by decide +kernel) (aF (by decide +kernel) (aF (by decide +kernel) (aF (by decide +kernel) (aF (by decide +kernel) (aF (by decide +kernel) (aF (by decide +kernel) (aF (by decide +kernel) (aF (by decide +kernel) (aF (by decide +kernel) rfl)))))))))
theorem rN(f:Str)(v:V):∀fs:List (Str×V),(bK f v fs).length≤fs.length+1
 |[]=>Nat.le_refl _
 |(g,x)::r=>by
  show(if g=f then (g,v)::r else (g,x)::bK f v r).length≤_
  split
  ·exact Nat.le_succ _
  ·show(bK f v r).length+1≤r.length+1+1
   have:=rN f v r
   omega
theorem Yd{fs:List (Str×V)}(h:fs=[]∨∃v:BV,fs=v.fs)(c k a t ln ld:Int)(dj dl dc di:Addr) :
  bK "initiators" (.ref di) (bK "closed" (.ref dc) (bK "limits" (.ref dl) (bK "last_due_turn" (.int ld) (bK "last_number" (.int ln) (bK "jobs" (.ref dj) (bK "time" (.int t) (bK "a" (.int a) (bK "k" (.int k) (bK "cap" (.int c) fs)))))))))=(BV.mk c k a t dj ln ld dl dc di).fs:=by
 rcases h with rfl|⟨v,rfl⟩
 ·rw[BV.adX,BV.i_k,BV.i_a,BV.ac0,BV.adi,BV.Mh,BV.Ia,BV.Zk,BV.aa2,BV.QV]
  rfl
 ·rw[BV.ad6,BV.p_k,BV.p_a,BV.ZJ,BV.acU,BV.Cg,BV.yF,BV.aaz,BV.aak,BV.Ox]
section
variable {P:Program}{w:World}{K:PySem.W.Frag}{mg:Str→Option Value}{base:Heap}
variable {σ:St}{H:Hp}{ta tb tc td:TE}{a:Addr}{j:Vbbhaj.Job}{A:Ad}{s:Vbbhaj.State}{T:Txt K mg}{X:Addr→Prop}{D:Ends}
def IsD(H:Hp)(v:V)(H':Hp):Prop:=∃l,v=.ref l∧H l=none∧H' l=some (.dK [])
theorem DR:EvP Ze σ H (IsD H):=fun H1 s Q k p hp=>k _ _ (ji hp) ⟨p,rfl,s.free hp,aX⟩
theorem Ef{C:Addr}{sp:Sp}{t:TA}{RA:List V→Hp→Prop}{R:V→Hp→Prop}(ha:EvA t σ H RA)
  (k:∀vs H1 x dx,aY H H1→RA vs H1→H1 x=none→H1 dx=none→dx≠x→∀Q:VK,(∀H',aY H1 H'→R (.ref x) H'→Q .non H')→sp (.ref x::vs) (upd (upd H1 dx (.own x)) x (.ins C dx [])) Q E0):EvP (Ny C sp [] E0 t) σ H R:=fun H0 s0 Q q =>
 ha H0 s0 _ fun vs H1 s1 r x dx hx hd n=>by
  rw[List.append_nil]
  exact k vs H1 x dx (s0.trans s1) r hx hd n _ fun H' s' r'=>⟨rfl,q _ _ (s1.trans s') r'⟩
theorem Bb{C:Addr}{H1:Hp}{x dx:Addr}(hx:H1 x=none)(hd:H1 dx=none):∀{H':Hp},Kp x (upd (upd H1 dx (.own x)) x (.ins C dx [])) H'→aY H1 H':=fun k b o e=>by
 have hb:b≠x:=bj e hx
 refine k b o ?_ hb
 rw[aO hb,aO (bj e hd)]
 exact e
theorem Xz{C:Addr}{H1:Hp}{x dx l:Addr}(h:upd (upd H1 dx (.own x)) x (.ins C dx []) l=none):H1 l=none:=by
 by_cases h1:l=x
 ·rw[h1,aX]at h;cases h
 ·rw[aO h1]at h
  by_cases h2:l=dx
  ·rw[h2,aX]at h;cases h
  ·rw[aO h2]at h;exact h
def Oq(T:Txt K mg):Sp:=fun vs H Q _=>∃x dx n na c p h ta,vs=[.ref x,.int n,.ref na,.int c,.int p,.bl h,.ref ta]∧H x=some (.ins T.gQ dx []) ∧
 ∀H',Kp x H H'→H' x=some (.ins T.gQ dx (JV.mk n na c p h ta 0 0 0 0 0).fs)→Q .non H'
theorem lt1000{n:Nat}(h:n≤20):n<1000:=by omega
theorem Rg(T:Txt K mg):bG P w K mg base CX0 1 T.lC.f T.lC.fd ["self","number","name","class_of","priority","held","tests"] (Oq T):=by
 refine T.lC.F.ok RN (fun vs H Q E ⟨_,_,_,_,_,_,_,_,e,_⟩=>by rw[e];rfl) fun cdv A outer s H vs Q E hr hsp=>⟨_,(ak (bF (pv 0) (pv 1) rfl)
   (ak (bF (pv 0) (pv 2) rfl)
   (ak (bF (pv 0) (pv 3) rfl)
   (ak (bF (pv 0) (pv 4) rfl)
   (ak (bF (pv 0) (pv 5) rfl)
   (ak (bF (pv 0) (pv 6) rfl)
   (ak (bF (pv 0) (bz T.mK rfl) rfl)
   (ak (bF (pv 0) aH rfl)
   (ak (bF (pv 0) aH rfl)
   (ak (bF (pv 0) aH rfl)
   (az (bF (pv 0) aH rfl)))))))))))),?_⟩
 obtain⟨x,dx,n,na,c,p,h,ta,rfl,e0,k⟩:=hsp
 refine aN (bT (aa rfl) (aa rfl) e0 T.bQ T.ud (lt1000 (by decide)) fun H1 k1 e1=>?_)
 (try dsimp only)
 rw[JV.Zg]at e1
 refine aN (bT (aa rfl) (aa rfl) e1 T.bQ T.uI (lt1000 (by show 1≤20;decide)) fun H2 k2 e2=>?_)
 (try dsimp only)
 rw[JV.acE]at e2
 refine aN (bT (aa rfl) (aa rfl) e2 T.bQ T.lH (lt1000 (by show 2≤20;decide)) fun H3 k3 e3=>?_)
 (try dsimp only)
 rw[JV.Vf]at e3
 refine aN (bT (aa rfl) (aa rfl) e3 T.bQ T.lB (lt1000 (by show 3≤20;decide)) fun H4 k4 e4=>?_)
 (try dsimp only)
 rw[JV.Vv]at e4
 refine aN (bT (aa rfl) (aa rfl) e4 T.bQ T.oZ (lt1000 (by show 4≤20;decide)) fun H5 k5 e5=>?_)
 (try dsimp only)
 rw[JV.ada]at e5
 refine aN (bT (aa rfl) (aa rfl) e5 T.bQ T.ir (lt1000 (by show 5≤20;decide)) fun H6 k6 e6=>?_)
 (try dsimp only)
 rw[JV.abg]at e6
 refine aN (bT aJ (aa rfl) e6 T.bQ T.lU (lt1000 (by show 6≤20;decide)) fun H7 k7 e7=>?_)
 (try dsimp only)
 rw[JV.abH]at e7
 refine aN (bT aJ (aa rfl) e7 T.bQ T.uR (lt1000 (by show 7≤20;decide)) fun H8 k8 e8=>?_)
 (try dsimp only)
 rw[JV.ady]at e8
 refine aN (bT aJ (aa rfl) e8 T.bQ T.qg (lt1000 (by show 8≤20;decide)) fun H9 k9 e9=>?_)
 (try dsimp only)
 rw[JV.aaa]at e9
 refine aN (bT aJ (aa rfl) e9 T.bQ T.eG (lt1000 (by show 9≤20;decide)) fun H10 k10 e10=>?_)
 (try dsimp only)
 rw[JV.Lr]at e10
 refine bT aJ (aa rfl) e10 T.bQ T.gP (lt1000 (by show 10≤20;decide)) fun H11 k11 e11=>?_
 (try dsimp only)
 rw[JV.TY]at e11
 exact k H11 (k1.trans (k2.trans (k3.trans (k4.trans (k5.trans (k6.trans (k7.trans (k8.trans (k9.trans (k10.trans k11)))))))))) e11
def N_(T:Txt K mg):Sp:=fun vs H Q _=>∃x dx,vs=[.ref x]∧H x=some (.ins T.bW dx []) ∧
 ∀H' l,Kp x H H'→H l=none→H' l=some (.lst [])→H' x=some (.ins T.bW dx (IV.mk false l false 0).fs)→Q .non H'
theorem Ff(T:Txt K mg):bG P w K mg base CX0 1 T.dH.f T.dH.fd ["self"] (N_ T):=by
 refine T.dH.F.ok Fl (fun vs H Q E ⟨_,_,e,_⟩=>by rw[e];rfl) fun cdv A outer s H vs Q E hr hsp=>⟨_,(ak (bF (pv 0) kI rfl)
   (ak (bF (pv 0) (bc aq) rfl)
   (ak (bF (pv 0) kI rfl)
   (az (bF (pv 0) aH rfl))))),?_⟩
 obtain⟨x,dx,rfl,e0,k⟩:=hsp
 refine aN (bT aJ (aa rfl) e0 T.bB T.jg (lt1000 (by decide)) fun H1 k1 e1=>?_)
 (try dsimp only)
 rw[IV.aed]at e1
 refine aN (nA (yo aV (Nat.zero_le _)) (aa rfl) e1 T.bB T.dq (lt1000 (by show 1≤20;decide)) ?_)
 rintro y H3 H4 s3 ⟨l,rfl,hl0,hl⟩ k4 e4
 (try dsimp only)
 rw[IV.YL]at e4
 have hl4:H4 l=some (.lst []):=k4 _ _ hl (cB hl (s3 _ _ e1) (by intro z;cases z))
 refine aN (bT aJ (aa rfl) e4 T.bB T.cF (lt1000 (by show 2≤20;decide)) fun H5 k5 e5=>?_)
 (try dsimp only)
 rw[IV.T8]at e5
 have hl5:=k5 _ _ hl4 (cB hl4 e4 (by intro z;cases z))
 refine bT aJ (aa rfl) e5 T.bB T.fj (lt1000 (by show 3≤20;decide)) fun H6 k6 e6=>?_
 (try dsimp only)
 rw[IV.adu]at e6
 exact k H6 l (k1.trans ((s3.kp x).trans (k4.trans (k5.trans k6)))) (k1.free e0 hl0 e1) (k6 _ _ hl5 (cB hl5 e5 (by intro z;cases z))) e6
def IsI(T:Txt K mg)(H:Hp)(v:V)(H':Hp):Prop:=∃x dx l,v=.ref x∧H x=none∧H l=none∧H' x=some (.ins T.bW dx (IV.mk false l false 0).fs)∧H' l=some (.lst [])
theorem ab2:EvP (Ny T.bW (N_ T) [] E0 eV) σ H (IsI T H) :=
 Ef aV fun vs H1 x dx s1 e hx hd n Q q=>by
  subst e
  refine⟨x,dx,rfl,aX,fun H' l k l0 hl e=>q H' (Bb hx hd k) ⟨x,dx,l,rfl,s1.free hx,s1.free (Xz l0),e,hl⟩⟩
theorem Ww{t:TA}{g:TG}{tb:TS}{lo hi:Int}{n:Nat}(ha:Bt t σ H [.int lo,.int hi])(hb:-(2 ^ 62)≤lo∧lo<2 ^ 62∧-(2 ^ 62)≤hi∧hi<2 ^ 62)(hn:(hi - lo).toNat=n)
  (k:∀H1,aY H H1→∃Pv:Nat→St→Hp→Prop,Pv 0 σ H1∧(∀i σ' H',i<n→Pv i σ' H'→g (.int (lo+i)) σ' H' fun σ2 H2=>tb {D with nx:=Pv (i+1),ct:=Pv (i+1),bk:=D.nx} σ2 H2)∧∀σ' H',Pv n σ' H'→D.nx σ' H'):aab (aca t) g tb D σ H :=
 EvA.use ha fun vs H1 s1 e=>by
  subst e
  subst hn
  obtain⟨Pv,k0,k1,k2⟩:=k H1 s1
  exact⟨lo,hi,rfl,hb,YJ Pv k0 k1 k2⟩
def abC(T:Txt K mg):Sp:=fun vs H Q _=>∃X b dx fs,∃c k a:Nat,vs=[.ref b,.int c,.int k,.int a]∧H b=some (.ins T.d_ dx fs)∧(fs=[]∨∃v:BV,fs=v.fs)∧¬X b∧(∀z,X z→H z≠none)∧Kg T (hid X H) ∧
 ∀H' A',Kp b H H'→A'.b=b→RX T X H' A' (Vbbhaj.newHouse c k a)→Q .non H'
theorem zE(T:Txt K mg):bG P w K mg base CX0 3 T.iK.f T.iK.fd ["self","cap","k","a"] (abC T):=by
 refine T.iK.F.ok uK (fun vs H Q E ⟨_,_,_,_,_,_,_,e,_⟩=>by rw[e];rfl) fun cdv A outer s H vs Q E hr hsp=>?_
 have hu:=eF hr
 refine⟨_,(ak (bF (pv 0) (pv 1) rfl)
   (ak (bF (pv 0) (pv 2) rfl)
   (ak (bF (pv 0) (pv 3) rfl)
   (ak (bF (pv 0) aH rfl)
   (ak (bF (pv 0) EY rfl)
   (ak (bF (pv 0) aH rfl)
   (ak (bF (pv 0) aH rfl)
   (ak (bF (pv 0) EY rfl)
   (ak (bF (pv 0) EY rfl)
   (ak (tK PassesOwn.never rfl (Oj rfl T.xT (aj aH (aj (jm zc (bz T.ue rfl) aH) aq))) (bL (i:=4) uK.nd rfl (Or.inl rfl)) (ak (Bd (by exact hu) (aD (K:=K) (pv 0) rfl) (pv 4) aH rfl)
   (az (Bd (by exact hu) (aD (K:=K) (pv 0) rfl) (pv 4) kI rfl))))
   (ak (bF (pv 0) EY rfl)
   (az (tK PassesOwn.never rfl (Oj rfl T.xT (aj aH (aj (jm zc (bz T.lX rfl) aH) aq))) (bL (i:=5) uK.nd rfl (Or.inl rfl)) (az (Bd (by exact hu) (aD (K:=K) (pv 0) rfl) (pv 5) (acC T.yR (Ff T) T.dH.b (by exact hr.mono (by decide)) rfl) rfl))))))))))))))),?_⟩
 obtain⟨X,b,dx,fs,c,k,a,rfl,e0,hfs,nx,hX,htab,kk⟩:=hsp
 have len0:fs.length≤10:=by
  rcases hfs with rfl|⟨v,rfl⟩
  ·exact Nat.zero_le _
  ·exact Nat.le_refl _
 have l1:=rN "cap" (.int c) fs
 refine aN (bT (aa rfl) (aa rfl) e0 T.bN T.vD (by omega) fun H1 k1 e1=>?_)
 (try dsimp only)
 generalize hf1:bK "cap" (.int c) fs=f1 at e1 l1
 have l2:=rN "k" (.int k) f1
 refine aN (bT (aa rfl) (aa rfl) e1 T.bN T.Bo (by omega) fun H2 k2 e2=>?_)
 (try dsimp only)
 generalize hf2:bK "k" (.int k) f1=f2 at e2 l2
 have l3:=rN "a" (.int a) f2
 refine aN (bT (aa rfl) (aa rfl) e2 T.bN T.uw (by omega) fun H3 k3 e3=>?_)
 (try dsimp only)
 generalize hf3:bK "a" (.int a) f2=f3 at e3 l3
 have l4:=rN "time" (.int 0) f3
 refine aN (bT aJ (aa rfl) e3 T.bN T.pZ (by omega) fun H4 k4 e4=>?_)
 (try dsimp only)
 generalize hf4:bK "time" (.int 0) f3=f4 at e4 l4
 have kA4:Kp b H H4:=k1.trans (k2.trans (k3.trans k4))
 refine aN (nA DR (aa rfl) e4 T.bN T.um (by omega) ?_)
 rintro y H5 H6 s5 ⟨dj,rfl,nj,hj5⟩ k6 e6
 (try dsimp only)
 have l5:=rN "jobs" (.ref dj) f4
 generalize hf5:bK "jobs" (.ref dj) f4=f5 at e6 l5
 have njH:H dj=none:=kA4.free e0 nj e4
 have gj6:H6 dj=some (.dK []):=k6 _ _ hj5 (cP (s5 _ _ e4) hj5)
 have kA6:Kp b H H6:=kA4.trans ((s5.kp b).trans k6)
 refine aN (bT aJ (aa rfl) e6 T.bN T.gm (by omega) fun H7 k7 e7=>?_)
 (try dsimp only)
 have l6:=rN "last_number" (.int 0) f5
 generalize hf6:bK "last_number" (.int 0) f5=f6 at e7 l6
 have gj7:=k7 _ _ gj6 (cP e6 gj6)
 refine aN (bT aJ (aa rfl) e7 T.bN T.fc (by omega) fun H8 k8 e8=>?_)
 (try dsimp only)
 have l7:=rN "last_due_turn" (.int 0) f6
 generalize hf7:bK "last_due_turn" (.int 0) f6=f7 at e8 l7
 have gj8:=k8 _ _ gj7 (cP e7 gj7)
 have kA8:Kp b H H8:=kA6.trans (k7.trans k8)
 refine aN (nA DR (aa rfl) e8 T.bN T.lJ (by omega) ?_)
 rintro y H9 H10 s9 ⟨dl,rfl,nl,hl9⟩ k10 e10
 (try dsimp only)
 have l8:=rN "limits" (.ref dl) f7
 generalize hf8:bK "limits" (.ref dl) f7=f8 at e10 l8
 have nlH:H dl=none:=kA8.free e0 nl e8
 have gl10:H10 dl=some (.dK []):=k10 _ _ hl9 (cP (s9 _ _ e8) hl9)
 have gj10:=k10 _ _ (s9 _ _ gj8) (cP (s9 _ _ e8) (s9 _ _ gj8))
 have njl:dj≠dl:=fun z=>by rw[z,nl]at gj8;cases gj8
 have kA10:Kp b H H10:=kA8.trans ((s9.kp b).trans k10)
 refine aN (nA DR (aa rfl) e10 T.bN T.kJ (by omega) ?_)
 rintro y H11 G s11 ⟨dc,rfl,nc,hc11⟩ k12 gb
 (try dsimp only)
 have l9:=rN "closed" (.ref dc) f8
 have lk8:f8.lookup ("limits" : Str)=some (.ref dl):=by rw[← hf8,pq,if_pos rfl]
 have lk9:(bK "closed" (.ref dc) f8).lookup ("limits" : Str)=some (.ref dl):=by rw[pq,if_neg (by decide +kernel),lk8]
 have lk9c:(bK "closed" (.ref dc) f8).lookup ("closed" : Str)=some (.ref dc):=by rw[pq,if_pos rfl]
 generalize hf9:bK "closed" (.ref dc) f8=f9 at gb l9 lk9 lk9c
 have ncH:H dc=none:=kA10.free e0 nc e10
 have gc:G dc=some (.dK []):=k12 _ _ hc11 (cP (s11 _ _ e10) hc11)
 have gl:G dl=some (.dK []):=k12 _ _ (s11 _ _ gl10) (cP (s11 _ _ e10) (s11 _ _ gl10))
 have gj:G dj=some (.dK []):=k12 _ _ (s11 _ _ gj10) (cP (s11 _ _ e10) (s11 _ _ gj10))
 have nlc:dl≠dc:=fun z=>by rw[z,nc]at gl10;cases gl10
 have njc:dj≠dc:=fun z=>by rw[z,nc]at gj10;cases gj10
 have kG:Kp b H G:=kA10.trans ((s11.kp b).trans k12)
 refine aN (Ww (lo:=1) (hi:=37) (n:=36) (aB aJ (aB (eY aJ aJ) aV)) ⟨by decide,by decide,by decide,by decide⟩ rfl fun Gr sr=>⟨fun i σ' H'=>(∃o4 o5,σ'=[some (.ref b),some (.int c),some (.int k),some (.int a),o4,o5])∧(∀z o,G z=some o→z≠dl→z≠dc→H' z=some o)∧H' dl=some (.dK (fY (fun c:Vbbhaj.Class=>V.int c.limit) 1 (List.replicate i {})))∧H' dc=some (.dK (fY (fun c:Vbbhaj.Class=>V.bl c.closed) 1 (List.replicate i {}))),?_,?_,?_⟩)
 ·exact⟨⟨_,_,rfl⟩,fun z o e _ _=>sr _ _ e,sr _ _ gl,sr _ _ gc⟩
 ·rintro i σ' H' hi ⟨⟨o4,o5,rfl⟩,kp,hl,hc⟩
  have hb':H' b=some (.ins T.d_ dx f9):=kp _ _ gb (cB gb gl (by intro z;cases z)) (cB gb gc (by intro z;cases z))
  have ek:(1:Int)+i=((1+(List.replicate i ({}:Vbbhaj.Class)).length:Nat):Int):=by rw[List.length_replicate];omega
  show m6 _ _ _ _ _
  refine aN (Pz aJ (b_ (aa rfl) hb' T.bN T.lJ lk9) (aa rfl) hl (by rw[wM,List.length_replicate];exact iB (by omega)) fun H5 k5 e5=>?_)
  (try dsimp only)
  have hb5:=k5 _ _ hb' (cB hb' hl (by intro z;cases z))
  have hc5:=k5 _ _ hc nlc.symm
  refine Pz aJ (b_ (aa rfl) hb5 T.bN T.kJ lk9c) (aa rfl) hc5 (by rw[wM,List.length_replicate];exact iB (by omega)) fun H6 k6 e6=>?_
  (try dsimp only)
  refine⟨⟨_,_,rfl⟩,fun z o e h1 h2=>k6 _ _ (k5 _ _ (kp _ _ e h1 h2) h1) h2,?_,?_⟩
  ·have e7:=k6 _ _ e5 nlc
   rw[List.replicate_succ',← Kl,← ek]
   exact e7
  ·rw[List.replicate_succ',← Kl,← ek]
   exact e6
 rintro σ' G1 ⟨⟨o4,o5,rfl⟩,kp1,hl1,hc1⟩
 (try dsimp only)
 have gb1:G1 b=some (.ins T.d_ dx f9):=kp1 _ _ gb (cB gb gl (by intro z;cases z)) (cB gb gc (by intro z;cases z))
 have gj1:G1 dj=some (.dK []):=kp1 _ _ gj njl njc
 have kG1:Kp b H G1:=fun z o e n=>kp1 _ _ (kG _ _ e n) (fun q=>by rw[q,nlH]at e;cases e) fun q=>by rw[q,ncH]at e;cases e
 refine aN (nA DR (aa rfl) gb1 T.bN T.gM (by omega) ?_)
 rintro y G2 G3 s2' ⟨di,rfl,ni,hi2⟩ k3' gb3
 (try dsimp only)
 have lk10:(bK "initiators" (.ref di) f9).lookup ("initiators" : Str)=some (.ref di):=by rw[pq,if_pos rfl]
 have hbv:bK "initiators" (.ref di) f9=(BV.mk c k a 0 dj 0 0 dl dc di).fs:=by
  rw[← hf9,← hf8,← hf7,← hf6,← hf5,← hf4,← hf3,← hf2,← hf1]
  exact Yd hfs _ _ _ _ _ _ _ _ _ _
 have niH:H di=none:=kG1.free e0 ni gb1
 have gi3:G3 di=some (.dK []):=k3' _ _ hi2 (cP (s2' _ _ gb1) hi2)
 have toG3:∀{z kvs},G1 z=some (.dK kvs)→G3 z=some (.dK kvs):=fun e=>k3' _ _ (s2' _ _ e) (cP (s2' _ _ gb1) (s2' _ _ e))
 have gj3:=toG3 gj1
 have gl3:=toG3 hl1
 have gc3:=toG3 hc1
 have nij:di≠dj:=fun z=>by rw[← z,ni]at gj1;cases gj1
 have nil_:di≠dl:=fun z=>by rw[← z,ni]at hl1;cases hl1
 have nic:di≠dc:=fun z=>by rw[← z,ni]at hc1;cases hc1
 have kG3:Kp b H G3:=kG1.trans ((s2'.kp b).trans k3')
 refine Ww (lo:=1) (hi:=17) (n:=16) (aB aJ (aB (eY aJ aJ) aV)) ⟨by decide,by decide,by decide,by decide⟩ rfl fun Gr2 sr2=>⟨fun i σ' H'=>(∃o4 o5,σ'=[some (.ref b),some (.int c),some (.int k),some (.int a),o4,o5])∧(∀z o,G3 z=some o→z≠di→H' z=some o)∧∃I:List (Addr×Vbbhaj.Init),I.length=i∧(∀p∈I,p.2={})∧H' di=some (.dK (fY (fun p:Addr×Vbbhaj.Init=>V.ref p.1) 1 I))∧(I.map (·.1)).Nodup ∧
  ∀p∈I,G3 p.1=none∧∃dxi l,H' p.1=some (.ins T.bW dxi (IV.mk false l false 0).fs)∧G3 l=none∧H' l=some (.lst []),?_,?_,?_⟩
 ·exact⟨⟨_,_,rfl⟩,fun z o e _=>sr2 _ _ e,[],rfl,by simp,sr2 _ _ gi3,List.nodup_nil,by simp⟩
 ·rintro i σ' H' hi ⟨⟨o4,o5,rfl⟩,kp,I,hIl,hI0,hdi,hnd,hall⟩
  have hb':H' b=some (.ins T.d_ dx (bK "initiators" (.ref di) f9)):=kp _ _ gb3 (cB gb3 gi3 (by intro z;cases z))
  have ek:(1:Int)+i=((1+I.length:Nat):Int):=by rw[hIl];omega
  have mono:Tz (IsI T H'):=fun v H1 H2 s ⟨x,dxi,l,a1,a2,a3,a4,a5⟩=>⟨x,dxi,l,a1,a2,a3,s _ _ a4,s _ _ a5⟩
  have fr:∀{z},H' z=none→G3 z=none:=fun{z} e=>by
   cases q:G3 z with
   |none=>rfl
   |some o =>
    by_cases h:z=di
    ·rw[h,hdi]at e;cases e
    ·rw[kp _ _ q h]at e;cases e
  refine W0 ab2 mono (b_ (aa rfl) hb' T.bN T.gM lk10) (aa rfl) hdi (by rw[wM,hIl];exact iB (by omega)) ?_
  rintro y H5 H6 s5 ⟨x,dxi,l,rfl,nx5,nl5,hx5,hl5⟩ k6 e6
  (try dsimp only)
  have hdi5:=s5 _ _ hdi
  refine⟨⟨_,_,rfl⟩,fun z o e h1=>k6 _ _ (s5 _ _ (kp _ _ e h1)) h1,I++[(x,({}:Vbbhaj.Init))],by rw[List.length_append,hIl];rfl,?_,?_,?_,?_⟩
  ·intro p hp
   rcases List.mem_append.mp hp with hp|hp
   ·exact hI0 p hp
   ·rw[List.mem_singleton.mp hp]
  ·rw[e6,← Kl,← ek]
  ·rw[List.map_append,List.nodup_append]
   refine⟨hnd,by simp,fun z hz z2 hz2 q=>?_⟩
   have:z2=x:=by simpa using hz2
   obtain⟨p,hp,ep⟩:=List.mem_map.mp hz
   obtain⟨_,_,_,hpi,_⟩:=hall p hp
   rw[ep,q,this,nx5]at hpi
   cases hpi
  ·intro p hp
   rcases List.mem_append.mp hp with hp|hp
   ·obtain⟨g1,d2,l2,a1,a2,a3⟩:=hall p hp
    exact⟨g1,d2,l2,k6 _ _ (s5 _ _ a1) (cB (s5 _ _ a1) hdi5 (by intro z;cases z)),a2,k6 _ _ (s5 _ _ a3) (cB (s5 _ _ a3) hdi5 (by intro z;cases z))⟩
   ·rw[List.mem_singleton.mp hp]
    exact⟨fr nx5,dxi,l,k6 _ _ hx5 (cB hx5 hdi5 (by intro z;cases z)),fr nl5,k6 _ _ hl5 (cB hl5 hdi5 (by intro z;cases z))⟩
 rintro σ' H' ⟨⟨o4,o5,rfl⟩,kp,I,hIl,hI0,hdi,hnd,hall⟩
 have kH:Kp b H H':=fun z o e n=>kp _ _ (kG3 _ _ e n) fun q=>by rw[q,niH]at e;cases e
 have nX:∀{z},H z=none→¬X z:=fun e q=>hX _ q e
 have fr3:∀{z},G3 z=none→H z=none:=fun e=>kG3.free e0 e gb3
 have hb':H' b=some (.ins T.d_ dx (bK "initiators" (.ref di) f9)):=kp _ _ gb3 (cB gb3 gi3 (by intro z;cases z))
 rw[hbv]at hb'
 refine kk H' ⟨b,dj,dl,dc,di,[],I⟩ kH rfl ⟨⟨⟨dx,?_⟩,?_,?_,?_,?_,rfl,?_,by simp,?_,List.nodup_nil,hnd,⟨nlc,njl,njc,nil_,nic,nij.symm⟩,List.Pairwise.nil,Nat.zero_le _,?_⟩,fun z hz e=>?_⟩
 ·rw[cu nx,hb'];rfl
 ·rw[cu (nX njH)];exact kp _ _ gj3 nij.symm
 ·rw[cu (nX nlH)];exact kp _ _ gl3 nil_.symm
 ·rw[cu (nX ncH)];exact kp _ _ gc3 nic.symm
 ·rw[cu (nX niH)];exact hdi
 ·show I.map (·.2)=List.replicate 16 {}
  refine List.eq_replicate_iff.mpr ⟨by rw[List.length_map,hIl],fun x hx=>?_⟩
  obtain⟨p,hp,ep⟩:=List.mem_map.mp hx
  rw[← ep]
  exact hI0 p hp
 ·intro p hp
  obtain⟨g1,d2,l2,a1,a2,a3⟩:=hall p hp
  rw[hI0 p hp]
  exact⟨d2,l2,by rw[cu (nX (fr3 g1))];exact a1,by rw[cu (nX (fr3 a2))];exact a3⟩
 ·exact htab.kp kH.hid (.inl ⟨_,_,_,by rw[cu nx];exact e0⟩)
 ·cases q:H z with
  |none=>exact hX z hz q
  |some o=>rw[kH _ _ q fun w=>nx (w▸hz)]at e;cases e
def Ot(T:Txt K mg):Sp:=fun vs H Q _=>∃X b dx,∃c k a:Nat,vs=[.ref b,.int c,.int k,.int a]∧H b=some (.ins T.d_ dx [])∧¬X b∧(∀z,X z→H z≠none)∧Kg T (hid X H) ∧
 ∀H' A',Kp b H H'→A'.b=b→RX T X H' A' (Vbbhaj.newHouse c k a)→Q .non H'
theorem Gi{C:Addr}{m:Str}{sp:Sp}{u:TA}{dx:Addr}{fs:List (Str×V)}{vs:List V}{Q:VK}(ha:Ev ta σ H (.ref a))(e:H a=some (.ins C dx fs))(l:fs.lookup m=none)(hu:Bt u σ H vs)(k:∀H',aY H H'→sp (.ref a::vs) H' Q E0):Nt C m sp [] E0 ta u σ H Q :=
 Ev.use ha fun H1 s1=>⟨a,dx,fs,rfl,s1 _ _ e,l,hu H1 s1 _ fun us H2 s2 e2=>by
  rw[e2,List.append_nil]
  exact k H2 (s1.trans s2)⟩
theorem MN(T:Txt K mg):bG P w K mg base CX0 4 T.iy.f T.iy.fd ["self","cap","k","a"] (Ot T):=by
 refine T.iy.F.ok Mt (fun vs H Q E ⟨_,_,_,_,_,_,e,_⟩=>by rw[e];rfl) fun cdv A outer s H vs Q E hr hsp=>⟨_,(az (iQ (ab8 (pv 0) T.bN T.iK (zE T) (by exact hr.mono (by decide)) (aj (pv 1) (aj (pv 2) (aj (pv 3) aq)))))),?_⟩
 obtain⟨X,b,dx,c,k,a,rfl,e0,nx,hX,ht,kk⟩:=hsp
 refine Gi (aa rfl) e0 rfl (aB (aa rfl) (aB (aa rfl) (aB (aa rfl) aV))) fun H1 s1=>?_
 refine⟨X,b,dx,[],c,k,a,rfl,s1 _ _ e0,.inl rfl,nx,fun z hz e=>hX z hz (s1.free e),ht.up (Er s1),fun H' A' k' e' r'=>kk H' A' ((s1.kp b).trans k') e' r'⟩
theorem aaZ(T:Txt K mg):bG P w K mg base CX0 4 T.Ao.f T.Ao.fd ["board","cap","k","a"] (spC T (aba .begin)):=by
 refine T.Ao.F.ok aaT (fun vs H Q E ⟨_,_,_,_,_,e,⟨_,_,_,e2,_⟩,_⟩=>by rw[e,e2];rfl) fun cdv A outer s H vs Q E hr hsp=>?_
 have hu:=eF hr
 refine⟨_,(ak (a_ (PW.pt (Hm (cD (bJ (aK T.xM (XC T) (by exact hr.mono (by decide)) rfl (aj (pv 1) aq)))) (Hm (cD (bJ (aK T.FJ (abh T) (by exact hr.mono (by decide)) rfl (aj (pv 2) aq)))) (Gj (cD (bJ (aK T.Gn (abB T) (by exact hr.mono (by decide)) rfl (aj (pv 3) aq)))))))) (az (aC (bc (aj (bz T.bH rfl) aq)))) aL)
   (ak (iQ (ab8 (pv 0) T.bN T.iK (zE T) (by exact hr.mono (by decide)) (aj (pv 1) (aj (pv 2) (aj (pv 3) aq)))))
   (az (aC (bc (aj aH aq)))))),?_⟩
 obtain⟨X,A,s,_,rest,rfl,⟨c,k,a,rfl,rfl⟩,hx,iv,d⟩:=hsp
 refine cU (Hy (cC (fu (iV (aa rfl)))) fun _=>Hy (cC (fu (iV (aa rfl)))) fun _=>cC (fu (iV (aa rfl)))) (fun q H1 s1=>?_) fun q H1 s1=>?_
 ·refine cI (aZ aJ) fun v H3 s3 l=>d.no (n:=-1) hx (if_pos ?_) (s1.trans s3) l
  have q:(!Vbbhaj.inside c 1 500||(!Vbbhaj.inside k 1 1000||!Vbbhaj.inside a 1 1000000))=true:=q
  simpa using q
 have q:(!Vbbhaj.inside c 1 500||(!Vbbhaj.inside k 1 1000||!Vbbhaj.inside a 1 1000000))=false:=q
 simp only[Bool.or_eq_false_iff,Bool.not_eq_false']at q
 obtain⟨qc,qk,qa⟩:=q
 have e0:Vbbhaj.step s (.begin c k a)=Vbbhaj.yes (Vbbhaj.newHouse c.toNat k.toNat a.toNat) 0:=if_neg (by rw[qc,qk,qa];simp)
 rw[e0]at d
 have hx1:=hx.up s1
 obtain⟨dx,eb⟩:=hx1.r.brd
 obtain⟨nxb,eb'⟩:=bM eb
 show m6 _ _ _ _ _
 refine aN (Gi (aa rfl) eb' (BV.Y4 _) (aB (aa rfl) (aB (aa rfl) (aB (aa rfl) aV))) fun H2 s2=>?_)
 refine⟨X,A.b,dx,_,c.toNat,k.toNat,a.toNat,?_,s2 _ _ eb',.inr ⟨_,rfl⟩,nxb,fun z hz e=>hx1.x z hz (s2.free e),hx1.r.tabs.up (Er s2),fun H' A' k' e' r'=>?_⟩
 ·rw[yq (lo:=1) qc (by decide),yq (lo:=1) qk (by decide),yq (lo:=1) qa (by decide)]
 (try dsimp only)
 refine cI (aZ aJ) fun v H4 s4 l=>d.go (r'.up s4) e' ?_ l
 exact(s1.trans s2).fix.trans ((k'.fix (s2 _ _ eb') (Iu _ _ _)).trans s4.fix)
end
end Jq
end
section
set_option Elab.async false
set_option linter.all false
set_option maxRecDepth 100000
set_option maxHeartbeats 1000000
namespace Jq
open PySem PySem.Spec PyProof.Rows L2
theorem UJ{X:Cx}{x:Str}{ps:List Str}{k:Nat}{sp:Sp}{p pos:Pos}{e:Expr}{es:List Expr}{t:TA}{C f:Addr}(D:Uq X.K X.mg C x f){fd:FuncData}(F:bG X.prog X.w X.K X.mg X.base CX0 k f fd ps sp)(b:Binds X.K fd ps [])(hr:jF (k+1) X.A)(hg:Gl X x)(ha:PA X (e::es) t)(hdb:(x==("__debug__" : Str))=false:=by decide)
  (he:starEach (e::es) X.env=(false,eval e X.env)::starEach es X.env:=by rfl) (hpl:(backTo pos (starEach es X.env)).any (·.1)=false:=by rfl):PE X (.Call (.Name x p) (e::es) [] pos) (Ny C sp [] E0 t) :=
 abk D.M F hr hg D.g b .nil RK ha hdb he hpl
def okB(xs:List Int):Prop:=∀x∈xs,0≤x∧x<256
theorem YZ{xs:List Int}(h:okB xs):(bytesOf xs).map (fun c=>(c.toNat:Int))=xs:=by
 unfold bytesOf
 rw[List.map_map]
 conv=>rhs;rw[← List.map_id xs]
 refine List.map_congr_left fun x hx=>?_
 have hx:=h x hx
 show((UInt8.ofNat x.toNat).toNat:Int)=x
 rw[UInt8.toNat_ofNat']
 omega
theorem YW{xs:List Int}(h:okB xs):Vbbhaj.isName (bytesOf xs)=nm xs:=by
 cases xs with
 |nil=>rfl
 |cons x r =>
  have hx:=h x List.mem_cons_self
  have tn:∀z:Int,0≤z→z<256→(UInt8.ofNat z.toNat).toNat=z.toNat:=fun z h1 h2=>by rw[UInt8.toNat_ofNat'];omega
  have el:∀z:Int,0≤z→z<256→(decide (65≤(UInt8.ofNat z.toNat).toNat∧(UInt8.ofNat z.toNat).toNat≤90))=Vbbhaj.inside z 65 90:=fun z h1 h2=>by
   unfold Vbbhaj.inside
   rw[tn z h1 h2,Bool.eq_iff_iff,decide_eq_true_eq,decide_eq_true_eq]
   omega
  have ed:∀z:Int,0≤z→z<256→(decide (48≤(UInt8.ofNat z.toNat).toNat∧(UInt8.ofNat z.toNat).toNat≤57))=Vbbhaj.inside z 48 57:=fun z h1 h2=>by
   unfold Vbbhaj.inside
   rw[tn z h1 h2,Bool.eq_iff_iff,decide_eq_true_eq,decide_eq_true_eq]
   omega
  have e1:((bytesOf r).all fun d=>decide (65≤d.toNat∧d.toNat≤90)||decide (48≤d.toNat∧d.toNat≤57))=r.all fun c=>Vbbhaj.inside c 65 90||Vbbhaj.inside c 48 57:=by
   have hr:∀y∈r,0≤y∧y<256:=fun y hy=>h y (List.mem_cons_of_mem _ hy)
   clear h hx
   induction r with
   |nil=>rfl
   |cons y r ih =>
    have hy:=hr y List.mem_cons_self
    show((decide _||decide _)&&(bytesOf r).all _)=((_||_)&&r.all _)
    rw[ih fun z hz=>hr z (List.mem_cons_of_mem _ hz),el y hy.1 hy.2,ed y hy.1 hy.2]
  show(decide ((bytesOf (x::r)).length≤8)&&(decide (65≤(UInt8.ofNat x.toNat).toNat∧(UInt8.ofNat x.toNat).toNat≤90)&&(bytesOf r).all fun d=>decide (65≤d.toNat∧d.toNat≤90)||decide (48≤d.toNat∧d.toNat≤57)))=_
  rw[el x hx.1 hx.2,e1]
  unfold nm
  have e2:(bytesOf (x::r)).length=(x::r).length:=by unfold bytesOf;rw[List.length_map]
  rw[e2,List.headD_cons,List.all_cons]
  have e3:(decide ((1:Int)≤((x::r).length:Nat))&&decide (((x::r).length:Int)≤8))=decide ((x::r).length≤8):=by
   rw[Bool.eq_iff_iff,Bool.and_eq_true,decide_eq_true_eq,decide_eq_true_eq,decide_eq_true_eq,List.length_cons]
   omega
  rw[e3]
  cases Vbbhaj.inside x 65 90<;>simp
def HX(ts:List Int):List Vbbhaj.Test:=(trips ts).map fun t=>⟨t.1.toNat,t.2.1.toNat,t.2.2.toNat⟩
theorem ZC{l:List (Int×Int×Int)}(h:∀t∈l,ju t=true):(l.map fun t=>(⟨t.1.toNat,t.2.1.toNat,t.2.2.toNat⟩:Vbbhaj.Test)).map tri=l:=by
 rw[List.map_map]
 conv=>rhs;rw[← List.map_id l]
 refine List.map_congr_left fun t ht=>?_
 have h:=h t ht
 unfold ju at h
 simp only[Bool.and_eq_true]at h
 have h1:=bI.mp h.1
 have h2:=bI.mp h.2.1
 have h3:=bI.mp h.2.2
 show((t.1.toNat:Int),(t.2.1.toNat:Int),(t.2.2.toNat:Int))=(t.1,t.2.1,t.2.2)
 rw[show(t.1.toNat:Int)=t.1 by omega,show(t.2.1.toNat:Int)=t.2.1 by omega,show(t.2.2.toNat:Int)=t.2.2 by omega]
def sV(s:Vbbhaj.State)(c p h:Int)(xs ts:List Int):Vbbhaj.Job:={num:=s.next,name:=bytesOf xs,cls:=c.toNat,prio:=p.toNat,held:=h==1,tests:=opened (gW s.jobs) (HX ts)}
theorem any_false{α:Type}{l:List α}{f:α→Bool}(h:l.any f=false):∀x∈l,f x=false:=fun x hx=>by
 have:=List.any_eq_false.mp h x hx
 simpa using this
theorem Hk{α:Type}(l:List α)(f:α→Bool):(l.any fun x=>!f x)=!l.all f:=by rw[List.not_all_eq_any_not]
theorem Yk{s:Vbbhaj.State}(g:Good s){c p h:Int}{xs ts:List Int}(hb:okB xs):Vbbhaj.doSubmit s c p h (bytesOf xs) ts=if mV s c p h xs ts=0 then Vbbhaj.yes {s with next:=s.next+1,jobs:=s.jobs++[sV s c p h xs ts]} s.next else (s,{num:=mV s c p h xs ts}):=by
 unfold Vbbhaj.doSubmit mV
 by_cases h1:Vbbhaj.isClass c=false∨Vbbhaj.inside p 0 15=false∨Vbbhaj.inside h 0 1=false
 ·rw[if_pos h1]
  have h1':(!Vbbhaj.isClass c||(!Vbbhaj.inside p 0 15||!Vbbhaj.inside h 0 1))=true:=by simpa using h1
  rw[if_pos h1',if_neg (by decide)]
  rfl
 have h1':¬(!Vbbhaj.isClass c||(!Vbbhaj.inside p 0 15||!Vbbhaj.inside h 0 1))=true:=by simpa using h1
 rw[if_neg h1,if_neg h1',YW hb]
 by_cases h2:nm xs=false
 ·rw[if_pos h2,if_pos (show(!nm xs||!qD ts)=true by rw[h2];rfl),if_neg (by decide)]
  rfl
 rw[if_neg h2]
 have h2':nm xs=true:=by simpa using h2
 by_cases h3:ts.length % 3=0
 case neg =>
  rw[Ec h3]
  have:qD ts=false:=by
   unfold qD
   rw[show decide ((ts.length:Int) % 3=0)=false by rw[decide_eq_false_iff_not];omega]
   rfl
  show Vbbhaj.no s 2=_
  rw[if_pos (show(!nm xs||!qD ts)=true by rw[this];simp),if_neg (by decide)]
  rfl
 have e0:Vbbhaj.triples ts=some (trips ts):=Es h3
 rw[e0]
 show(if 8<(trips ts).length then _ else _)=_
 have hl:(trips ts).length=ts.length / 3:=by unfold trips;rw[List.length_map,List.length_range]
 by_cases h4:8<(trips ts).length
 ·rw[if_pos h4]
  have:qD ts=false:=by
   unfold qD
   rw[show decide ((ts.length:Int) / 3≤8)=false by rw[decide_eq_false_iff_not];omega,Bool.and_false]
  rw[if_pos (show(!nm xs||!qD ts)=true by rw[this];simp),if_neg (by decide)]
  rfl
 rw[if_neg h4]
 have h4':qD ts=true:=by
  unfold qD
  rw[Bool.and_eq_true,decide_eq_true_eq,decide_eq_true_eq]
  omega
 rw[if_neg (show¬(!nm xs||!qD ts)=true by rw[h2',h4'];simp)]
 unfold lE
 rw[Hk (trips ts) ju,Hk (trips ts) (vz s.jobs)]
 have e5:((trips ts).all fun t=>Vbbhaj.isNum t.1&&(Vbbhaj.inside t.2.1 0 3&&Vbbhaj.inside t.2.2 0 4095))=(trips ts).all ju:=rfl
 rw[e5]
 cases h5:(trips ts).all ju with
 |false=>rfl
 |true =>
 rw[if_neg (by decide)]
 have e6:((trips ts).all fun t=>(Vbbhaj.jobAt s t.1).isSome)=(trips ts).all (vz s.jobs):=rfl
 rw[e6]
 cases h6:(trips ts).all (vz s.jobs)with
 |false=>rfl
 |true =>
 rw[if_neg (by decide)]
 have ok5:∀t∈trips ts,ju t=true:=List.all_eq_true.mp h5
 have et:(HX ts).map tri=trips ts:=ZC ok5
 have hk:∀t∈HX ts,t.kind≤3:=fun t ht=>by
  obtain⟨u,hu,rfl⟩:=List.mem_map.mp ht
  have h:=ok5 u hu
  unfold ju at h
  simp only[Bool.and_eq_true]at h
  have h2:=bI.mp h.2.1
  show u.2.1.toNat≤3
  omega
 have hm:∀t∈HX ts,∃k∈s.jobs,k.num=t.job∧Vbbhaj.endingIn (gW s.jobs) t.job=endOf k:=fun t ht=>by
  obtain⟨u,hu,rfl⟩:=List.mem_map.mp ht
  have h:=ok5 u hu
  unfold ju at h
  simp only[Bool.and_eq_true]at h
  have h1:=bI.mp h.1
  obtain⟨k,ek⟩:=Option.isSome_iff_exists.mp (show(tX s.jobs u.1).isSome=true from List.all_eq_true.mp h6 u hu)
  obtain⟨mk,nk⟩:=iJ ek
  have e:k.num=u.1.toNat:=by omega
  exact⟨k,mk,e,by show Vbbhaj.endingIn _ u.1.toNat=_;rw[← e];exact uf g.srt mk⟩
 obtain⟨af,ao⟩:=T3 g.srt hk hm
 rw[et]at af
 have e7:((trips ts).any fun t=>yL s.jobs t)=!iH (gW s.jobs) (HX ts):=af
 rw[e7]
 show(if iH (gW s.jobs) (HX ts)=false then Vbbhaj.no s 7 else if s.cap≤s.jobs.length∨Vbbhaj.LASTNUM<s.next then Vbbhaj.no s 8 else Vbbhaj.yes {s with next:=s.next+1,jobs:=s.jobs++[sV s c p h xs ts]} s.next)=_
 cases h7:iH (gW s.jobs) (HX ts)with
 |false=>rfl
 |true =>
 rw[if_neg (by decide)]
 have e8:full s=true↔(s.cap≤s.jobs.length∨Vbbhaj.LASTNUM<s.next):=by
  unfold full Vbbhaj.LASTNUM
  rw[Bool.or_eq_true,decide_eq_true_eq,decide_eq_true_eq]
  omega
 by_cases h8:s.cap≤s.jobs.length∨Vbbhaj.LASTNUM<s.next
 ·rw[if_pos h8,e8.mpr h8]
  rfl
 ·rw[if_neg h8]
  have:full s=false:=by
   cases hf:full s with
   |false=>rfl
   |true=>exact absurd (e8.mp hf) h8
  rw[this]
  rfl
section
variable {P:Program}{w:World}{K:PySem.W.Frag}{mg:Str→Option Value}{base:Heap}
variable {σ:St}{H:Hp}{ta tb tc td:TE}{a:Addr}{j:Vbbhaj.Job}{A:Ad}{s:Vbbhaj.State}{T:Txt K mg}{X:Addr→Prop}{D:Ends}
theorem Yl{L:List (Addr×Vbbhaj.Job)}{x:Addr}{j:Vbbhaj.Job}(h:∀p∈L,p.2.num<j.num):putK (rC L) (Sum.inl (j.num:Int)) (.ref x)=rC (L++[(x,j)]):=by
 rw[RD _ (XQ fun p hp=>by have:=h p hp;omega)]
 unfold rC
 rw[List.map_append]
 rfl
theorem Rep.acQ{H':Hp}{x:Addr}(h:Rep T H A s)(k:Kp A.dj H H')(e:H' A.dj=some (.dK (rC (A.L++[(x,j)]))))(hj:cT T H' x j)(hn:∀p∈A.L,p.1≠x)(hs:∀p∈A.L,p.2.num<j.num)(hf:s.jobs.length<500) :
  Rep T H' {A with L:=A.L++[(x,j)]} {s with jobs:=s.jobs++[j]}:=by
 have w:Wr H A.dj:=.inr ⟨_,h.jobs⟩
 have nd:∀{b C dx fs},H b=some (.ins C dx fs)→b≠A.dj:=fun e=>(cP e h.jobs).symm
 refine⟨?_,e,k _ _ h.lim h.dd.2.1.symm,k _ _ h.clo h.dd.2.2.1.symm,k _ _ h.ini h.dd.2.2.2.2.2.symm,?_,h.is,fun p hp=>?_,fun p hp=>?_,?_,h.ndi,h.dd,?_,?_,h.tabs.kp k w⟩
 ·obtain⟨dx,e1⟩:=h.brd
  exact⟨dx,k _ _ e1 (nd e1)⟩
 ·show(A.L++[(x,j)]).map (·.2)=_
  rw[List.map_append,h.js]
  rfl
 ·rcases List.mem_append.mp hp with hp | hp
  ·have hj:=h.job p hp
   obtain⟨dx,na,ta,e1,_⟩:=id hj
   exact hj.kp k w (nd e1)
  ·rw[List.mem_singleton.mp hp]
   exact hj
 ·have hj:=h.int p hp
  obtain⟨dx,ca,e1,_⟩:=id hj
  exact hj.kp k w (nd e1)
 ·show((A.L++[(x,j)]).map (·.1)).Nodup
  rw[List.map_append,List.nodup_append]
  refine⟨h.ndj,by simp,fun z hz z2 hz2 q=>?_⟩
  have:z2=x:=by simpa using hz2
  obtain⟨p,hp,ep⟩:=List.mem_map.mp hz
  exact hn p hp (by rw[ep,q,this])
 ·refine List.pairwise_append.mpr ⟨h.srt,List.pairwise_singleton _ _,fun y hy z hz=>?_⟩
  rw[List.mem_singleton.mp hz]
  rw[← h.js]at hy
  obtain⟨p,hp,ep⟩:=List.mem_map.mp hy
  rw[← ep]
  exact hs p hp
 ·show(s.jobs++[j]).length≤500
  rw[List.length_append]
  exact hf
def dS:DT:=fun r H c=>∃x y z nl rl xs ts,r=[.int x,.int y,.int z,.ref nl,.ref rl]∧H nl=some (.lst (xs.map V.int))∧xs.length≤100000∧H rl=some (.lst (ts.map V.int))∧ts.length≤400∧okB xs∧c=.submit x y z (bytesOf xs) ts
theorem PB{s:Vbbhaj.State}{c p h:Int}{xs ts:List Int}(q:mV s c p h xs ts=0):Vbbhaj.isClass c=true∧Vbbhaj.inside p 0 15=true∧Vbbhaj.inside h 0 1=true∧qD ts=true∧(∀t∈trips ts,ju t=true)∧(∀t∈trips ts,vz s.jobs t=true)∧full s=false:=by
 unfold mV at q
 split at q
 ·exact absurd q (by decide)
 rename_i h1
 split at q
 ·exact absurd q (by decide)
 rename_i h2
 have h1:(!Vbbhaj.isClass c||(!Vbbhaj.inside p 0 15||!Vbbhaj.inside h 0 1))=false:=by simpa using h1
 have h2:(!nm xs||!qD ts)=false:=by simpa using h2
 simp only[Bool.or_eq_false_iff,Bool.not_eq_false']at h1 h2
 split at q
 ·rename_i h3
  refine⟨h1.1,h1.2.1,h1.2.2,h2.2,?_⟩
  unfold lE at h3
  split at h3
  ·exact absurd h3 (by decide)
  rename_i h4
  split at h3
  ·exact absurd h3 (by decide)
  rename_i h5
  refine⟨fun t ht=>?_,fun t ht=>?_,?_⟩
  ·have:=any_false (by simpa using h4:((trips ts).any fun t=>!ju t)=false) t ht
   simpa using this
  ·have:=any_false (by simpa using h5:((trips ts).any fun t=>!vz s.jobs t)=false) t ht
   simpa using this
  ·cases hf:full s with
   |false=>rfl
   |true=>rw[hf]at q;exact absurd q (by decide)
 ·rename_i h3
  exact absurd q h3
theorem Yn(T:Txt K mg):bG P w K mg base CX0 5 T.wW.f T.wW.fd ["board","class_of","priority","held","name","row"] (spC T dS):=by
 refine T.wW.F.ok Aw (fun vs H Q E ⟨_,_,_,_,_,e,⟨_,_,_,_,_,_,_,e2,_⟩,_⟩=>by rw[e,e2];rfl) fun cdv A outer s H vs Q E hr hsp=>?_
 have hu:=eF hr
 refine⟨_,(ak (bu (i:=6) Aw.nd rfl (Or.inl rfl) (aK T.eQ (Ak T) (by exact hr.mono (by decide)) rfl (aj (pv 0) (aj (pv 1) (aj (pv 2) (aj (pv 3) (aj (pv 4) (aj (pv 5) aq))))))))
   (ak (a_ (aR jr (pv 6) (bz T.aW rfl) (aQ _)) (az (aC (bc (aj (pv 6) aq)))) aL)
   (ak (bu (i:=7) Aw.nd rfl (Or.inl rfl) (aK T.dG (tZ T) (by exact hr.mono (by decide)) rfl (aj (aD (K:=K) (pv 0) rfl) (aj (aK T.iI (zO T) (by exact hr.mono (by decide)) rfl (aj (pv 5) aq)) aq))))
   (ak (bu (i:=8) Aw.nd rfl (Or.inl rfl) (jm zc (aD (K:=K) (pv 0) rfl) aH))
   (ak (Bd (by exact hu) (aD (K:=K) (pv 0) rfl) (pv 8) (UJ T.aaR (Rg T) T.lC.b (by exact hr.mono (by decide)) rfl (aj (pv 8) (aj (mz ye rfl T.Gy IK (aj (pv 4) aq)) (aj (pv 1) (aj (pv 2) (aj (fK dm (pv 3) aH (aQ _)) (aj (pv 7) aq))))))) rfl)
   (ak (bF (pv 0) (pv 8) rfl)
   (az (aC (bc (aj (pv 8) aq)))))))))),?_⟩
 obtain⟨X,A,s,_,rest,rfl,⟨c,p,h,nl,rl,xs,ts,rfl,hn,hnz,hrw,hrz,hb,rfl⟩,hx,iv,d⟩:=hsp
 have d:Done T X H A (Vbbhaj.doSubmit s c p h (bytesOf xs) ts) Q:=d
 rw[Yk iv.g hb]at d
 have h0:=hx.rep
 refine aN (iw (v:=.int (mV s c p h xs ts)) (nH (G:=WD T) (aB (aa rfl) (aB (aa rfl) (aB (aa rfl) (aB (aa rfl) (aB (aa rfl) (aB (aa rfl) aV)))))) fun H1 s1=>⟨A,s,c,p,h,nl,rl,xs,ts,rfl,h0.up s1,s1 _ _ hn,hnz,s1 _ _ hrw,hrz,rfl⟩) fun H1 s1=>?_)
 (try dsimp only)
 refine cU (aP (fM (aa rfl) aJ)) (fun q H2 s2=>?_) fun q H2 s2=>?_
 ·exact cI (aZ (aa rfl)) fun v H3 s3 l=>d.no hx (if_neg (by simpa using jl q)) (s1.trans (s2.trans s3)) l
 have q:mV s c p h xs ts=0:=by simpa using q
 rw[if_pos q]at d
 obtain⟨qc,qp,qh,qr,qt,qe,qf⟩:=PB q
 obtain⟨n1,n2⟩:=Wv qr
 have sx:=s1.trans s2
 have hx2:=hx.up sx
 have h2:=hx2.rep
 have sp:EvP _ ((start ["board","class_of","priority","held","name","row","refusal","tests","number"] [V.ref A.b,.int c,.int p,.int h,.ref nl,.ref rl]).set 6 (some (.int (mV s c p h xs ts)))) H2 (fun v H'=>∃ps,ps.map (·.2)=trips ts∧Bu H' ps v∧∀p∈ps,H2 p.1=none) :=
  Vx (G:=Pj) (aB (aa (i:=5) (v:=.ref rl) rfl) aV) fun H3 s3=>⟨_,⟨rl,ts,ts.length / 3,rfl,s3 _ _ (sx _ _ hrw),n1,n2,rfl⟩,fun v H' ⟨ps,e1,e2,e3⟩=>⟨ps,e1,e2,fun p hp=>s3.free (e3 p hp)⟩⟩
 have ps_len:∀{ps:List (Addr×Int×Int×Int)},ps.map (·.2)=trips ts→ps.length≤8:=fun{ps} e=>by
  have:=congrArg List.length e
  unfold trips at this
  rw[List.length_map,List.length_map,List.length_range]at this
  omega
 have opn:∀{ps:List (Addr×Int×Int×Int)},ps.map (·.2)=trips ts→(ps.filter fun p=>xm s.jobs p.2).map (·.2)=(opened (gW s.jobs) (HX ts)).map tri:=fun{ps} e=>by
  have et:(HX ts).map tri=trips ts:=ZC qt
  have hk:∀t∈HX ts,t.kind≤3:=fun t ht=>by
   obtain⟨u,hu,rfl⟩:=List.mem_map.mp ht
   have h:=qt u hu
   unfold ju at h
   simp only[Bool.and_eq_true]at h
   have h2:=bI.mp h.2.1
   show u.2.1.toNat≤3
   omega
  have hm:∀t∈HX ts,∃k∈s.jobs,k.num=t.job∧Vbbhaj.endingIn (gW s.jobs) t.job=endOf k:=fun t ht=>by
   obtain⟨u,hu,rfl⟩:=List.mem_map.mp ht
   have h:=qt u hu
   unfold ju at h
   simp only[Bool.and_eq_true]at h
   have h1:=bI.mp h.1
   obtain⟨k,ek⟩:=Option.isSome_iff_exists.mp (show(tX s.jobs u.1).isSome=true from qe u hu)
   obtain⟨mk,nk⟩:=iJ ek
   have e:k.num=u.1.toNat:=by omega
   exact⟨k,mk,e,by show Vbbhaj.endingIn _ u.1.toNat=_;rw[← e];exact uf iv.g.srt mk⟩
  obtain⟨_,ao⟩:=T3 iv.g.srt hk hm
  rw[← ao,et,← e,List.filter_map]
  rfl
 show m6 _ _ _ _ _
 have ts2:EvP (fG (ro (gTs T fun H l ps v H'=>Bu H' (ps.filter fun p=>xm l p.2) v∧∃d,v=.ref d∧H d=none)) [] E0 (bw (j4 K (b8 0) "jobs") (bw (fG (ro Pj) [] E0 (bw (b8 5) eV)) eV))) ((start ["board","class_of","priority","held","name","row","refusal","tests","number"] [V.ref A.b,.int c,.int p,.int h,.ref nl,.ref rl]).set 6 (some (.int (mV s c p h xs ts)))) H2 (fun v H'=>∃qs l,v=.ref l∧qs.map (·.2)=(opened (gW s.jobs) (HX ts)).map tri∧Bu H' qs v∧H2 l=none∧∀p∈qs,H2 p.1=none) :=
  fun Hq sq Q k=>(Lp (cA (aa (i:=0) rfl) h2) sp (fun v H1 H2 s1 ⟨ps,e1,e2,e3⟩=>⟨ps,e1,wD _ _ _ s1 e2,e3⟩)) Hq sq _ fun us H3 s3 ⟨v,e,ps,e1,e2,e3⟩=>by
   obtain⟨l,rfl,_⟩:=id e2
   show ro (gTs T fun H l ps v H'=>Bu H' (ps.filter fun p=>xm l p.2) v∧∃d,v=.ref d∧H d=none) (us++[]) H3 Q E0
   rw[List.append_nil]
   have h3:=h2.up (sq.trans s3)
   have hin:∀p∈ps,∃q∈A.L,(q.2.num:Int)=p.2.1:=fun p hp=>by
    have ht:p.2∈trips ts:=by rw[← e1];exact List.mem_map_of_mem (f:=(·.2)) hp
    obtain⟨j,ej⟩:=Option.isSome_iff_exists.mp (show(tX s.jobs p.2.1).isSome=true from qe _ ht)
    rw[← h2.js]at ej
    obtain⟨a,m,en⟩:=Qz ej
    exact⟨(a,j),m,en⟩
   refine⟨_,⟨A.dj,l,A.L,ps,e,h3.jobs,h3.job,h3.Mg,e2,hin,ps_len e1,rfl⟩,fun v H4 s4 ⟨r1,dd,r2,r3⟩=>?_⟩
   rw[h3.js]at r1
   exact k v H4 (s3.trans s4) ⟨_,dd,r2,opn e1,r1,(sq.trans s3).free r3,fun p hp=>e3 p (List.mem_filter.mp hp).1⟩
 refine aN (uY ts2 ?_)
 rintro v H3 s3 ⟨qs,tl,rfl,eq,htr,ntl,nqs⟩
 (try dsimp only)
 have hx3:=hx2.up s3
 have h3:=hx3.rep
 refine aN (iw (v:=.int (s.next:Nat)) ((eY (xu (aa rfl) h3) aJ).cast (by congr 1;omega)) fun H4 s4=>?_)
 (try dsimp only)
 have hx4:=hx3.up s4
 have h4:=hx4.rep
 have sx4:=sx.trans (s3.trans s4)
 have hn4:=sx4 _ _ hn
 have cN:((c.toNat:Nat):Int)=c:=yq (lo:=1) (hi:=36) qc (by decide)
 have pN:((p.toNat:Nat):Int)=p:=yq (lo:=0) (hi:=15) qp (by decide)
 have mk:EvP _ (((((start ["board","class_of","priority","held","name","row","refusal","tests","number"] [V.ref A.b,.int c,.int p,.int h,.ref nl,.ref rl]).set 6 (some (.int (mV s c p h xs ts)))).set 7 (some (.ref tl))).set 8 (some (.int (s.next:Nat))))) H4 (fun v H'=>∃x dx na,v=.ref x∧H4 x=none∧H4 na=none∧H' x=some (.ins T.gQ dx (jv (sV s c p h xs ts) na tl).fs)∧H' na=some (.lst (xs.map V.int))) :=
  Ef (C:=T.gQ) (sp:=Oq T) (t:=bw (b8 8) (bw (tCB (fun xs H Q=>∃p ys,xs=[.ref p]∧(SqL K H p ys∨SqT K H p ys)∧∀l,H l=none→Q (.ref l) (upd H l (.lst ys))) (bw (b8 4) eV)) (bw (b8 1) (bw (b8 2) (bw (tOp rEq (b8 3) (tC (V.int 1))) (bw (b8 7) eV)))))) (RA:=fun vs H'=>∃na,vs=[.int (s.next:Nat),.ref na,.int c,.int p,.bl (decide (h=1)),.ref tl]∧H4 na=none∧H' na=some (.lst (xs.map V.int)))
   (fun Hq sq Q k=>Ev.use (aa rfl) fun H5 s5=>EvP.use (Lf ((aa rfl).toL (s5 _ _ (sq _ _ hn4)))) fun v H6 s6 ⟨na,ev,n0,hna⟩=>EvA.use (aB (aa rfl) (aB (aa rfl) (aB (bY (aa rfl) aJ) (aB (aa rfl) aV)))) fun us H7 s7 e7=>k _ H7 (s5.trans (s6.trans s7)) ⟨na,by rw[ev,e7],(sq.trans s5).free n0,s7 _ _ hna⟩)
   fun vs H5 x dx s5 ⟨na,ev,n0,hna⟩ hx0 hd0 ne Q k=>by
    subst ev
    have hxna:na≠x:=fun z=>by rw[z,hx0]at hna;cases hna
    have hxdx:na≠dx:=fun z=>by rw[z,hd0]at hna;cases hna
    refine⟨x,dx,_,na,c,p,_,tl,rfl,aX,fun H' k' e'=>k H' (Bb hx0 hd0 k') ⟨x,dx,na,rfl,s5.free hx0,n0,?_,?_⟩⟩
    ·rw[e']
     unfold jv sV
     rw[cN,pN]
     have:(h==1)=decide (h=1):=by rw[Bool.eq_iff_iff];simp
     rw[this]
     rfl
    ·refine k' _ _ ?_ hxna
     rw[aO hxna,aO hxdx]
     exact hna
 have mono:Tz (fun v H'=>∃x dx na,v=.ref x∧H4 x=none∧H4 na=none∧H' x=some (.ins T.gQ dx (jv (sV s c p h xs ts) na tl).fs)∧H' na=some (.lst (xs.map V.int))):=fun v Ha Hb sab ⟨x,dx,na,a1,a2,a3,a4,a5⟩=>⟨x,dx,na,a1,a2,a3,sab _ _ a4,sab _ _ a5⟩
 have few4:s.jobs.length<500:=by
  unfold full at qf
  simp only[Bool.or_eq_false_iff,decide_eq_false_iff_not]at qf
  have:=iv.g.cap
  omega
 have lts:∀p∈A.L,p.2.num<s.next:=fun p hp=>(iv.g.num p.2 (wO h0 hp)).2
 refine aN (W0 mk mono (cA (aa rfl) h4) (aa rfl) h4.jobs (by unfold rC;rw[List.length_map,← List.length_map (f:=(·.2)),h4.js];exact iB (by omega)) ?_)
 rintro y H5 H6 s5 ⟨x,dx,na,rfl,nx,nna,hx5,hna5⟩ k6 e6
 (try dsimp only)
 have hx5':=hx4.up s5
 have nxd:=(bM hx5'.r.jobs).1
 have Xx:=hx4.fresh nx
 have Xna:=hx4.fresh nna
 have Xtl:=hx2.fresh ntl
 have hjd5:=hx5'.rep.jobs
 have jn:cT T (hid X H6) x (sV s c p h xs ts):=by
  refine⟨dx,na,tl,?_,?_,qs,eq,tl,rfl,?_,fun p hp=>?_⟩
  ·rw[cu Xx];exact k6 _ _ hx5 (cB hx5 hjd5 (by intro z;cases z))
  ·show hid X H6 na=some (.lst ((bytesOf xs).map fun c=>V.int c.toNat))
   have:((bytesOf xs).map fun c=>V.int c.toNat)=xs.map V.int:=by
    conv=>rhs;rw[← YZ hb]
    rw[List.map_map]
    rfl
   rw[this,cu Xna]
   exact k6 _ _ hna5 (cB hna5 hjd5 (by intro z;cases z))
  ·obtain⟨l',el,htl,_⟩:=htr
   cases el
   have:=s5 _ _ (s4 _ _ htl)
   rw[cu Xtl]
   exact k6 _ _ this (cB this hjd5 (by intro z;cases z))
  ·obtain⟨l',el,_,htp⟩:=htr
   have:=s5 _ _ (s4 _ _ (htp p hp))
   rw[cu (hx2.fresh (nqs p hp))]
   exact k6 _ _ this (cB this hjd5 (by intro z;cases z))
 have ax:∀p∈A.L,p.1≠x:=fun p hp z=>by
  obtain⟨_,_,_,e,_⟩:=h4.job p hp
  rw[z,nx]at e
  cases e
 have r6:RX T X H6 {A with L:=A.L++[(x,sV s c p h xs ts)]} {s with jobs:=s.jobs++[sV s c p h xs ts]} :=
  ⟨hx5'.r.acQ k6.hid (by rw[cu nxd,e6];congr 2;exact Yl (j:=sV s c p h xs ts) lts) jn ax lts few4,hx5'.keep k6 nxd⟩
 obtain⟨dxb,eb⟩:=r6.r.brd
 obtain⟨nxb,eb'⟩:=bM eb
 refine aN (bT (aa rfl) (aa rfl) eb' T.bN T.gm (BV.few _) fun H7 k7 e7=>?_)
 (try dsimp only)
 rw[BV.Cg]at e7
 have r7:RX T X H7 {A with L:=A.L++[(x,sV s c p h xs ts)]} {s with next:=s.next+1,jobs:=s.jobs++[sV s c p h xs ts]}:=⟨r6.r.VV k7.hid (s':={s with next:=s.next+1,jobs:=s.jobs++[sV s c p h xs ts]}) (by
  rw[cu nxb,e7]
  unfold bv
  rw[show((s.next+1:Nat):Int) - 1=(s.next:Int)by omega]) rfl rfl rfl,r6.keep k7 nxb⟩
 refine cI (aZ (aa rfl)) fun v H8 s8 l=>d.go (r7.up s8) rfl ?_ l
 exact sx4.fix.trans (s5.fix.trans ((k6.fix hjd5 (W4 _)).trans ((k7.fix eb' (Iu _ _ _)).trans s8.fix)))
end
end Jq
end
section
set_option Elab.async false
set_option linter.all false
set_option maxRecDepth 100000
set_option maxHeartbeats 1000000
namespace L2
open PySem PySem.Spec PyProof.Rows
structure Gf where
 qual:Str
 params:Arguments
 body:Expr
 scope:Scope
def Tj(c:Addr)(qual:Str):HO:=.ext fun h=>h.CodeRec (.ref c) qual
def lamO(d:Gf)(cl:List (Str×Addr))(q c:Addr):HO:=.ext fun h=>∃pm ctv,h.get? q=some (PySem.W.kla_obj "<lambda>" d.qual d.params d.body d.scope cl pm c ctv)
def Hv(H:Hp)(d:Gf)(cl:List (Str×Addr))(q:Addr):Prop:=∃c,H q=some (lamO d cl q c)∧H c=some (Tj c d.qual)
theorem K9{c:Addr}{qual:Str}{h1 h2:Heap}(x:h1.CodeRec (.ref c) qual)(k:∀o,h1.get? c=some o→h2.get? c=some o):h2.CodeRec (.ref c) qual:=by
 obtain⟨c2,oc,vs,t,e,ho,r⟩:=x
 cases e
 exact⟨c,oc,vs,t,rfl,k _ ho,r⟩
theorem Ru{c:Addr}{qual:Str}{h:Heap}(x:h.CodeRec (.ref c) qual):∃o,h.get? c=some o:=by
 obtain⟨c2,oc,vs,t,e,ho,r⟩:=x
 cases e
 exact⟨_,ho⟩
theorem abf{P:Program}{w:World}{H:Hp}{h:Heap}{c:Addr}{qual:Str}(x:h.CodeRec (.ref c) qual):iz P w H h c (Tj c qual) :=
 ⟨x,Ru x,fun _ _ a k=>K9 a k⟩
theorem ZK{P:Program}{w:World}{H:Hp}{h:Heap}{d:Gf}{cl:List (Str×Addr)}{q c:Addr}{pm ctv:Value}(e:h.get? q=some (PySem.W.kla_obj "<lambda>" d.qual d.params d.body d.scope cl pm c ctv)):iz P w H h q (lamO d cl q c) :=
 ⟨⟨pm,ctv,e⟩,⟨_,e⟩,fun h1 h2 ⟨pm,ctv,a⟩ k=>⟨pm,ctv,k _ a⟩⟩
theorem U8(pos:Pos)(a b:Int)(c:Value):∀(l:List Value),TriplesOk l→∀cv,codeAmong pos (l++[rawInt a,rawInt b,c])=some cv→codeAmong pos l=some cv∨cv=c:=by
 intro l h
 fun_induction TriplesOk l with
 |case1 =>
  intro cv e
  simp only[List.nil_append,codeAmong,rawInt]at e
  split at e
  ·exact .inr (Option.some.inj e).symm
  ·cases e
 |case2 a' t b' u x rest ih =>
  intro cv e
  simp only[List.cons_append,codeAmong]at e ⊢
  split at e
  ·rename_i hc;rw[if_pos hc];exact .inl e
  ·rename_i hc;rw[if_neg hc];exact ih h cv e
 |case3 l h1 h2=>exact h.elim
def Xl(H:Hp)(p:Addr)(qual:Str):Prop:=∃ps:Array Value,H p=some (.tbl ps)∧TriplesOk ps.toList∧∀pos cv,codeAmong pos ps.toList=some cv→∃c,cv=.ref c∧H c=some (.ext fun h=>h.CodeRec (.ref c) qual)
def acr(H H':Hp)(p:Addr)(qual:Str):Prop:=∀ps:Array Value,H p=some (.tbl ps)→TriplesOk ps.toList→∃ps':Array Value,H' p=some (.tbl ps')∧TriplesOk ps'.toList∧∀pos cv,codeAmong pos ps'.toList=some cv→codeAmong pos ps.toList=some cv∨∃c,cv=.ref c∧H c=none∧H' c=some (.ext fun h=>h.CodeRec (.ref c) qual)
def VR(P:Addr)(d:Gf)(cl:List (Str×Addr)):TE:=fun _ H Q=>Xl H P d.qual∧∀q H',(∀b o,H b=some o→b≠P→H' b=some o)→H q=none→acr H H' P d.qual→Hv H' d cl q→Q (.ref q) H'
section
variable {X:Cx}
theorem Inv.grown{pins:List (Addr×Obj)}{σ:St}{H H':Hp}{s:Shared}{P:Addr}{ps more:Array Value}{h':Heap}{t':Nat}(I:Inv X pins σ H s)(hP:H P=some (.tbl ps))(k:∀b o,b≠P→s.heap.get? b=some o→h'.get? b=some o)
  (hP':H' P=some (.tbl (ps++more))) (hHP:h'.get? P=some {cls:=.none,data:=.fields (ps++more)}) (hk:∀b o,H b=some o→b≠P→H' b=some o) (hn:∀b,b<s.heap.objs.size→H b=none→H' b=none)
  (hnew:∀b o,H b=none→H' b=some o→iz X.prog X.w H' h' b o):Inv X pins σ H' {s with heap:=h',toks:=t'}:=by
 have nP:∀b,H b=none→b≠P:=fun b e z=>by rw[z,hP]at e;cases e
 refine I.un ⟨fun b o e n _ _=>k b o (nP b n) e,fun b o e n _ _=>⟨o.slots,k b o (nP b n) e⟩,fun b o e n _=>hn b (Heap.lt_size e) n,fun b o e _=>?_,fun b xs e=>hk b _ e (fun z=>by rw[z,hP]at e;cases e),fun b o u e=>hk b _ e (fun z=>by rw[z,hP]at e;cases e),fun b qs e=>?_⟩ fun b o e=>?_
 ·by_cases z:b=P
  ·exact⟨_,by rw[z];exact hHP⟩
  ·exact⟨o,k b o z e⟩
 ·by_cases z:b=P
  ·rw[z,hP]at e;cases e;exact⟨more,by rw[z];exact hP'⟩
  ·exact⟨#[],by rw[hk b _ e z];simp⟩
 ·cases q:H b with
  |none=>exact hnew b o q e
  |some o2 =>
   by_cases z:b=P
   ·subst z
    rw[hP']at e
    cases e
    exact hHP
   ·rw[hk b o2 q z]at e
    cases e
    refine(I.hok b o q).stay (fun c u hc hu=>k c u ?_ hu) (fun c hc=>hk c _ hc fun z=>by rw[z,hP]at hc;cases hc) fun c xs hc=>hk c _ hc fun z=>by rw[z,hP]at hc;cases hc
    rcases hc with rfl|hc
    ·exact z
    ·intro z;rw[z,hP]at hc;cases hc
theorem ac2{params:Arguments}{body:Expr}{scope:Scope}{pos:Pos}{own:List (Str×Nat)}{c P:Addr}(ok:wZ X.N X.env.scope scope own)(hcode:X.env.code=.ref c)(C:∀h,X.K.In h→PySem.W.CodeHd h c P)(hb:∃bm o,X.mg "__builtins__" = some (.ref bm)∧bm≠builtinsNs∧bm≠mainGlobals∧X.base.get? bm=some o∧o.cls=.type "module"∧o.dict=some builtinsNs∧o.data=.plain)
  {qual:Str} (hq:X.env.qual++"<lambda>" = qual) (hdef:defaultsOf params X.env=([],[]):=by rfl):PE X (.Lambda params body scope pos) (VR P ⟨qual,params,body,scope⟩ (bx X.env.cells scope.names [])):=by
 intro pins s σ H Q I h
 obtain⟨⟨ps,hP,ht,hcs⟩,q⟩:=h
 have hfree:∀y∈scope.names,y.2=.free→∃c,X.env.cells.lookup y.1=some c:=fun y hy e=>by
  rcases ok.free y hy e with k|k
  ·exact I.ok.has _ (.inl k)
  ·exact I.ok.has _ (.inr k)
 have hobj:s.heap.get? P=some (PySem.W.tabObj ps):=I.hok P _ hP
 have ns:=I.mod.glob.keeps I.bk
 have neB:∀b o,X.base.get? b=some o→b≠P:=fun b o e z=>by
  have:=(I.bs b o e).2
  rw[z,hP]at this
  cases this
 have hgP:mainGlobals≠P:=by
  obtain⟨o,_,_,e,_⟩:=I.mod.glob
  exact neB _ _ e
 obtain⟨bm,ob,b1,b2,b3,b4,b5,b6,b7⟩:=hb
 have hbb:s.heap.BuiltinsAt X.mg P:=⟨bm,ob,b1,b2,b3,neB _ _ b4,I.bk _ _ b4,b5,b6,b7⟩
 refine PySem.W.kla_eval hdef ?_
 rw[hq]
 cases hf:codeAmong pos ps.toList with
 |some cv =>
  obtain⟨c',rfl,hc'⟩:=hcs pos cv hf
  refine PySem.W.kla_makeFunctionHit (CP hfree) I.ok.glob ns hcode (C _ I.kIn) hobj ht hf hbb fun ctv h' tk hk hsz=>?_
  have hnew:(h'.push (PySem.W.kla_obj "<lambda>" qual params body scope (bx X.env.cells scope.names []) ((X.mg "__name__").getD .none) c' ctv)).get? h'.objs.size=some (PySem.W.kla_obj "<lambda>" qual params body scope (bx X.env.cells scope.names []) ((X.mg "__name__").getD .none) c' ctv):=Heap.get?_push_size _ rfl
  have hn:H h'.objs.size=none:=I.hok.fresh hsz
  have keep:∀b o,H b=some o→upd H h'.objs.size (lamO ⟨qual,params,body,scope⟩ (bx X.env.cells scope.names []) h'.objs.size c') b=some o:=fun b o e=>by rw[aO (bj e hn)];exact e
  refine⟨.ref h'.objs.size,upd H h'.objs.size (lamO ⟨qual,params,body,scope⟩ (bx X.env.cells scope.names []) h'.objs.size c'),I.laid (t':=tk) (fun b o e=>Heap.get?_push_of_some _ (hk b o e)) hsz (ZK (d:=⟨qual,params,body,scope⟩) hnew),rfl,?_⟩
  exact q _ _ (fun b o e _=>keep b o e) hn (fun ps0 e0 h0=>⟨ps0,keep _ _ e0,h0,fun pos cv e=>.inl e⟩) ⟨c',aX,keep _ _ hc'⟩
 |none =>
  refine PySem.W.kla_makeFunction (CP hfree) I.ok.glob ns hcode (C _ I.kIn) hobj ht hf hgP hbb fun c' ctv h' tk hx hge hlt hrec htab=>?_
  generalize hobj2:PySem.W.kla_obj "<lambda>" qual params body scope (bx X.env.cells scope.names []) ((X.mg "__name__").getD .none) c' ctv=ob2
  have hnew:(h'.push ob2).get? h'.objs.size=some ob2:=by rw[← hobj2];exact Heap.get?_push_size _ rfl
  have hsz:s.heap.objs.size≤h'.objs.size:=Nat.le_trans hge (Nat.le_of_lt hlt)
  have hnc:H c'=none:=I.hok.fresh hge
  have hnq:H h'.objs.size=none:=I.hok.fresh hsz
  have ncq:c'≠h'.objs.size:=Nat.ne_of_lt hlt
  have hPs:P<s.heap.objs.size:=Heap.lt_size hobj
  have nPc:P≠c':=Nat.ne_of_lt (Nat.lt_of_lt_of_le hPs hge)
  have nPq:P≠h'.objs.size:=Nat.ne_of_lt (Nat.lt_of_lt_of_le hPs hsz)
  generalize hH':upd (upd (upd H P (.tbl (ps++#[rawInt pos.line,rawInt pos.col,.ref c']))) c' (Tj c' qual)) h'.objs.size (lamO ⟨qual,params,body,scope⟩ (bx X.env.cells scope.names []) h'.objs.size c')=H'
  have eq':H' h'.objs.size=some (lamO ⟨qual,params,body,scope⟩ (bx X.env.cells scope.names []) h'.objs.size c'):=by rw[← hH',aX]
  have ec':H' c'=some (Tj c' qual):=by rw[← hH',aO ncq,aX]
  have eP':H' P=some (.tbl (ps++#[rawInt pos.line,rawInt pos.col,.ref c'])):=by rw[← hH',aO nPq,aO nPc,aX]
  have keep:∀b o,H b=some o→b≠P→H' b=some o:=fun b o e n=>by
   rw[← hH',aO (bj e hnq),aO (bj e hnc),aO n];exact e
  have kc:∀b o,b≠P→s.heap.get? b=some o→(h'.push ob2).get? b=some o:=fun b o n e=>Heap.get?_push_of_some _ (hx b o n e)
  refine⟨.ref h'.objs.size,H',I.grown (t':=tk) hP kc eP' (Heap.get?_push_of_some _ htab) keep (fun b hb n=>?_) (fun b o n e=>?_),rfl,?_⟩
  ·rw[← hH',aO (Nat.ne_of_lt (Nat.lt_of_lt_of_le hb hsz)),aO (Nat.ne_of_lt (Nat.lt_of_lt_of_le hb hge)),aO (fun z=>by rw[z,hP]at n;cases n)];exact n
  ·by_cases z1:b=h'.objs.size
   ·subst z1
    rw[eq']at e;cases e
    rw[← hobj2]at hnew ⊢
    exact ZK (d:=⟨qual,params,body,scope⟩) hnew
   ·by_cases z2:b=c'
    ·subst z2
     rw[ec']at e;cases e
     exact abf (K9 hrec fun o e=>Heap.get?_push_of_some _ e)
    ·rw[← hH',aO z1,aO z2,aO (fun z=>by rw[z,hP]at n;cases n),n]at e
     cases e
  ·refine q _ _ keep hnq (fun ps0 e0 h0=>?_) ⟨c',eq',ec'⟩
   rw[hP]at e0
   cases e0
   refine⟨_,eP',?_,fun pos' cv e=>?_⟩
   ·rw[Array.toList_append]
    exact TriplesOk_snoc _ _ _ _ ht
   ·rw[Array.toList_append]at e
    rcases U8 pos' _ _ _ _ ht cv e with e|e
    ·exact .inl e
    ·exact .inr ⟨c',e,hnc,ec'⟩
end
end L2
end
section
set_option Elab.async false
set_option linter.all false
set_option maxRecDepth 100000
set_option maxHeartbeats 1000000
namespace L2
open PySem PySem.Spec PyProof.Rows
abbrev Cx.in1(X:Cx):Cx:={X with A:=X.A.in1}
abbrev Cx.lam(X:Cx)(s:Shared)(H:Hp)(env:Env):Cx:={X with A:=X.A.in1.deeper env,s_0:=s,H_0:=H,env:=env,outer:=X.stack,stack:=env::X.stack,ex:=[],fn:=fun _=>false,calm:=true,pn:=[],xe:=fun _ _=>False}
section
variable {X:Cx}{pins:List (Addr×Obj)}{σ:St}{H:Hp}{s:Shared}
theorem Cx.Ok.in1(o:X.Ok):X.in1.Ok:=⟨o.mod,o.kind,o.glob,o.blt,o.above,o.inj,o.has,o.cab,o.hd,o.frames,o.stk,o.exf,o.bs,o.bsz,o.XS,o.Vr,o.DX,o.frf⟩
theorem Inv.in1(I:Inv X pins σ H s):Inv X.in1 pins σ H s:=⟨I.ok.in1,I.os,I.bare,I.base,I.loc,I.cell,I.free,I.t_,I.pin,I.hok,I.len⟩
theorem Inv.ad7(o:X.Ok)(I:Inv X.in1 pins σ H s):Inv X pins σ H s:=⟨o,I.os,I.bare,I.base,I.loc,I.cell,I.free,I.t_,I.pin,I.hok,I.len⟩
theorem YC{scope:Scope}{p:Str}{k:Nat}{q c':Addr}{qual:Str}{x:V}{v:Value}{h₁:Heap}{t':Nat}(hc:X.calm=true)(I:Inv X pins σ H s)(ok:wZ X.N X.env.scope scope [(p,k)])(hN:X.N.Nodup)(hloc:scope.names.lookup p=some .local)(hcell:∀y∈scope.names,y.2≠.cell)(r:RelV x v)
  (hns:h₁.Ns s.heap.objs.size (fun y=>[(p,v)].reverse.lookup y)) (kp:∀b o,s.heap.get? b=some o→h₁.get? b=some o) :
  Inv (X.lam s H (PySem.W.envX qual scope s.heap.objs.size q (.ref c') (bx X.env.cells scope.names []))) [] ((wipe σ [k]).set k (some x)) H {s with heap:=h₁,toks:=t'}:=by
 have hfree:∀y∈scope.names,y.2=.free→∃c,X.env.cells.lookup y.1=some c:=fun y hy e=>by
  rcases ok.free y hy e with k|k
  ·exact I.ok.has _ (.inl k)
  ·exact I.ok.has _ (.inr k)
 have cm:∀{y c},(y,c)∈bx X.env.cells scope.names []→X.env.cells.lookup y=some c∧c<s.heap.objs.size:=fun{y c} hm=>by
  rcases sI hm with hm|⟨h1,rfl⟩
  ·cases hm
  ·obtain⟨c,hc⟩:=hfree _ h1 rfl
   rw[hc]
   obtain⟨w,z⟩:=I.cell _ _ hc
   exact⟨rfl,z.lt⟩
 have mem:∀{y c},(bx X.env.cells scope.names []).lookup y=some c→X.env.cells.lookup y=some c∧c<s.heap.objs.size:=fun{y c} e=>cm (PySem.mem_of_lookup e)
 have look:∀{y},scope.names.lookup y=some .free→∃c,(bx X.env.cells scope.names []).lookup y=some c∧X.env.cells.lookup y=some c:=fun{y} hl=>by
  obtain⟨c',e'⟩:=mem_lookup (vI (cells:=X.env.cells) (acc:=[]) (PySem.mem_of_lookup hl))
  exact⟨c',e',(mem e').1⟩
 have okL:(X.lam s H (PySem.W.envX qual scope s.heap.objs.size q (.ref c') (bx X.env.cells scope.names []))).Ok:=by
  refine⟨I.ok.mod,ok.kind,rfl,rfl,Nat.le_refl _,fun y z c e1 e2=>I.ok.inj y z c (mem e1).1 (mem e2).1,fun y hy=>?_,(fun y c z=>by cases z),fun _=>I.ok.hd hc,Around.frames_deeper I.ok.frames,.inr ⟨rfl,rfl⟩,fun b hb=>(by cases hb),I.bs,Nat.le_trans I.ok.bsz I.sz,fun b o e hb=>(by cases hb),fun b hb=>(by cases hb),I.stack,I.Ph⟩
  have hy:scope.names.lookup y=some .cell∨scope.names.lookup y=some .free:=hy
  rcases hy with hy|hy
  ·exact absurd rfl (hcell _ (PySem.mem_of_lookup hy))
  ·obtain⟨c,h1,_⟩:=look hy
   exact⟨c,h1⟩
 have hk:X.N[k]?=some p:=ok.ix (p,k) List.mem_cons_self
 have hkl:k<(wipe σ [k]).length:=by rw[sG,I.len];exact(List.getElem?_eq_some_iff.mp hk).1
 refine⟨okL,rfl,I.bare,Un.kept kp,⟨_,hns,fun i y av e1 e2 e3=>?_⟩,fun y c e=>?_,?_,fun y c e=>?_,fun p hp=>?_,I.hok.kept kp,by rw[List.length_set,sG];exact I.len⟩
 ·have e1:X.N[i]?=some y:=e1
  by_cases hi:k=i
  ·subst hi
   rw[List.getElem?_set_self hkl]at e2
   cases e2
   rw[hk]at e1
   cases e1
   refine⟨v,r,.inl ⟨hloc,?_⟩⟩
   show List.lookup p [(p,v)]=some v
   rw[List.lookup_cons,beq_self_eq_true]
  ·rw[List.getElem?_set_ne hi]at e2
   obtain⟨e2,hne⟩:=Bm e2
   have hfr:scope.names.lookup y=some .free:=by
    rcases e3 with e3|e3|e3
    ·rcases ok.own _ (PySem.mem_of_lookup e3) (.inl rfl)with e' | e'
     ·have:y=p:=by simpa using e'
      subst this
      exact absurd (Ek hN hk e1) hi
     ·exact absurd (List.mem_of_getElem? e1) e'
    ·exact absurd rfl (hcell _ (PySem.mem_of_lookup e3))
    ·exact e3
   obtain⟨m,hn,hl⟩:=I.loc
   have hvis:Vis X.env.scope y:=(ok.free _ (PySem.mem_of_lookup hfr) rfl).elim (fun k=>.inr (.inl k)) (fun k=>.inr (.inr k))
   obtain⟨w,r',l⟩:=hl i y av e1 e2 hvis
   refine⟨w,r',.inr ⟨.inr hfr,?_⟩⟩
   obtain⟨c,h1,h2⟩:=look hfr
   rcases l with ⟨k',_⟩|⟨_,c2,e',z⟩
   ·have k':X.env.scope.names.lookup y=some .local:=k'
    rcases ok.free _ (PySem.mem_of_lookup hfr) rfl with k2|k2<;>rw[show X.env.scope.names.lookup y=_ from k2]at k'<;>cases k'
   ·rw[h2]at e';cases e'
    exact⟨c,h1,z.keeps kp⟩
 ·obtain⟨w,z⟩:=I.cell y c (mem e).1
  exact⟨w,z.keeps kp⟩
 ·exact I.hok.fresh (Nat.le_refl _)
 ·exact I.t_ y c (mem e).1
 ·exact absurd (show p∈([]:List (Addr×Obj))++[]from hp) (by simp)
theorem ZS{d:Gf}{p:Str}{k:Nat}{q:Addr}{x:V}{v:Value}{te:TE}{Q:VK}{E:Value→Shared→Prop}(hc:X.calm=true)(I:Inv X pins σ H s)(ok:wZ X.N X.env.scope d.scope [(p,k)])(hN:X.N.Nodup)(hloc:d.scope.names.lookup p=some .local)(hcell:∀y∈d.scope.names,y.2≠.cell)
  (hco:d.scope.isCoroutine=false) (hgen:d.scope.isGenerator=false) (hbind:∀(pm cdv ct:Value) (cl:List (Str×Addr)) (v:Value),bindArgs (PySem.W.kla_fn "<lambda>" d.qual d.params d.body d.scope cl pm cdv ct) ⟨[v],[]⟩=pure [(p,v)])
  (hd:X.A.depth<recursionLimit) (il:Hv H d (bx X.env.cells d.scope.names []) q) (r:RelV x v)
  (he:∀(s:Shared) (H:Hp) (L c':Addr) (cl:List (Str×Addr)),PE (X.lam s H (PySem.W.envX d.qual d.scope L q (.ref c') cl)) d.body te) (h:te ((wipe σ [k]).set k (some x)) H Q) :
  wpAny (model X.prog X.w) X.A.in1 (call (.ref q) [v]) (EP X pins σ Q) E s:=by
 obtain⟨c',hq,hcd⟩:=il
 obtain⟨⟨pm,ctv,eq⟩,_⟩:=(show iz X.prog X.w H s.heap q (lamO d (bx X.env.cells d.scope.names []) q c')from I.hok q _ hq)
 obtain⟨crec,_⟩:=(show iz X.prog X.w H s.heap c' (Tj c' d.qual)from I.hok c' _ hcd)
 refine wpAny_call (PySem.W.kla_callFunE hd eq rfl hco hgen rfl crec ?_)
 rw[hbind]
 refine wpAny_pure (wpAny_newFunctionEnv hcell (fun y hy=>?_) (fun h₁ hns hsb=>⟨I.nolimit.fresh _ hsb,?_⟩) ok.kind)
 ·have:y=(p,v):=by simpa using hy
  rw[this];exact hloc
 have kp:∀b o,s.heap.get? b=some o→h₁.get? b=some o:=fun b o e=>hsb.extBut b o (Nat.ne_of_lt (Heap.lt_size e)) (Heap.get?_push_of_some _ e)
 have IL:=YC (qual:=d.qual) (q:=q) (c':=c') (t':=s.toks+1) hc I ok hN hloc hcell r hns kp
 refine PySem.W.kla_codeExpr (wpAny_mono (he s H s.heap.objs.size c' (bx X.env.cells d.scope.names []) [] _ _ H _ IL h) (fun u s' ⟨y,H',J,ry,qy⟩=>?_) fun _ _ z=>z.elim)
 exact⟨y,H',I.call' (ch:=[]) J.os J.base J.hok J.bare (fun b z=>by cases z),ry,qy⟩
end
end L2
end
section
set_option Elab.async false
set_option linter.all false
set_option maxRecDepth 100000
set_option maxHeartbeats 1000000
namespace L2
open PySem PySem.Spec PyProof.Rows
def pR(tup:Bool)(y:V)(H:Hp)(k:List Int):Prop:=match tup with
 |true=>∃a,y=.ref a∧H a=some (.tup (k.map V.int))
 |false=>∃i,k=[i]∧y=.int i
theorem pR.up{tup:Bool}{y:V}{H H':Hp}{k:List Int}(h:pR tup y H k)(s:aY H H'):pR tup y H' k:=by
 cases tup with
 |true=>obtain⟨a,e,q⟩:=h;exact⟨a,e,s _ _ q⟩
 |false=>exact h
theorem pR.upT{tup:Bool}{y:V}{H H':Hp}{k:List Int}(h:pR tup y H k)(s:∀b xs,H b=some (.tup xs)→H' b=some (.tup xs)):pR tup y H' k:=by
 cases tup with
 |true=>obtain⟨a,e,q⟩:=h;exact⟨a,e,s _ _ q⟩
 |false=>exact h
theorem Ay(i j:Int):HT.lexLt [i] [j]=decide (i<j):=by
 rw[HT.jz,HT.Ci]
 by_cases h:i=j
 ·rw[if_pos h,h];simp
 ·rw[if_neg h]
theorem Km:∀{a b c:List Int},HT.lexLt a b=true→HT.lexLt b c=true→HT.lexLt a c=true
 |[],[],_,h,_=>by cases h
 |_::_,[],_,h,_=>by cases h
 |[],_::_,[],_,h=>by cases h
 |[],_::_,_::_,_,_=>rfl
 |_::_,_::_,[],_,h=>by cases h
 |x::a,y::b,z::c,h1,h2=>by
  rw[HT.jz]at h1 h2 ⊢
  by_cases e1:x=y
  ·rw[if_pos e1]at h1
   subst e1
   by_cases e2:x=z
   ·rw[if_pos e2]at h2 ⊢
    exact Km h1 h2
   ·rw[if_neg e2]at h2 ⊢
    exact h2
  ·rw[if_neg e1,decide_eq_true_eq]at h1
   by_cases e2:y=z
   ·subst e2
    rw[if_neg e1,decide_eq_true_eq]
    exact h1
   ·rw[if_neg e2,decide_eq_true_eq]at h2
    rw[if_neg (by omega),decide_eq_true_eq]
    omega
section
variable {X:Cx}{pins:List (Addr×Obj)}{σ:St}{H:Hp}{s:Shared}
theorem ac_{tup:Bool}{y1 y2:V}{k1 k2:List Int}{u1 u2:Value}{A:Around}{Q:Value→Shared→Prop}{E:Value→Shared→Prop}(I:Inv X pins σ H s)(h1:pR tup y1 H k1)(h2:pR tup y2 H k2)(r1:RelV y1 u1)(r2:RelV y2 u2)(hu:A.units<cLine)(q:Q (.bool (HT.lexLt k1 k2)) s) :
  wpAny (model X.prog X.w) A (richCompare .Lt u1 u2) Q E s:=by
 cases tup with
 |false =>
  obtain⟨i,rfl,rfl⟩:=h1
  obtain⟨j,rfl,rfl⟩:=h2
  obtain⟨t,rfl⟩:=(show ∃t,u1=Value.int i t from r1)
  obtain⟨t',rfl⟩:=(show ∃t,u2=Value.int j t from r2)
  rw[Ay]at q
  exact HT.Tc A s i t j t' X.prog X.w E Q q
 |true =>
  obtain⟨a,rfl,e1⟩:=h1
  obtain⟨b,rfl,e2⟩:=h2
  cases (show u1=Value.ref a from r1)
  cases (show u2=Value.ref b from r2)
  obtain⟨its,v1,p1,_⟩:=I.tuple (SqT.of e1)
  obtain⟨its2,v2,p2,_⟩:=I.tuple (SqT.of e2)
  exact(HT.U5 p1 p2 (intsAre_of v1) (intsAre_of v2) hu q:wpAny (model X.prog X.w) A (compareOp .Lt (.ref a) (.ref b)) Q E s)
theorem tG.at{H':Hp}{b:Addr}(f:tG X pins H b)(h:H' b=none):tG X pins H' b:=⟨h,f.2⟩
def Ax(X:Cx)(σ:St)(q:Addr)(tup:Bool)(kf:Nat→List Int)(xs:List V)(H0:Hp):Prop :=
 ∀(i:Nat) (x:V) (v:Value) (pins:List (Addr×Obj)) (s:Shared) (H2:Hp),xs[i]?=some x→RelV x v→Inv X pins σ H2 s→aY H0 H2 →
  wpAny (model X.prog X.w) X.A.in1 (call (.ref q) [v]) (EP X pins σ fun y H3=>aY H2 H3∧pR tup y H3 (kf i)) (fun _ _=>False) s
theorem aaM{q it l:Addr}{tup:Bool}{kf:Nat→List Int}{xs:List V}{H0:Hp}{i j:Nat}{x:V}{v:Value}{Q:Value→Shared→Prop}{E:Value→Shared→Prop}(turn:Ax X σ q tup kf xs H0)(I:Inv X pins σ H s)(s0:aY H0 H)(f:tG X pins H it)(st:s.heap.IsListIter it l j)(hx:xs[i]?=some x)(r:RelV x v)
  (k:∀u s' y H',Inv X pins σ H' s'→aY H H'→tG X pins H' it→s'.heap.IsListIter it l j→RelV y u→pR tup y H' (kf i)→Q u s'):wpAny (model X.prog X.w) X.A.in1 (call (.ref q) [v]) Q E s:=by
 obtain⟨o,eo,c,d⟩:=id st
 have I':=I.pinned (fp:=[it]) (fun b hb=>(List.mem_singleton.mp hb)▸f) (fun b hb=>(List.mem_singleton.mp hb)▸⟨o,eo,fun v z=>by rw[d]at z;cases z⟩)
 refine wpAny_mono (turn i x v _ s H hx r I' s0) (fun u s' ⟨y,H',J,ry,sm,ka⟩=>?_) fun _ _ z=>z.elim
 obtain⟨p1,p2,_⟩:=J.pin (it,o) (List.mem_append_right _ (List.mem_append_right _ (uQ (by simp) eo)))
 exact k u s' y H' J.wV sm (f.at p2) ⟨o,p1,c,d⟩ ry ka
def acP(tup:Bool)(kf:Nat→List Int)(xs:List V)(H:Hp)(j:Nat)(best:List V):Prop :=
 (j=0∧best=[])∨∃i x y,i<j∧xs[i]?=some x∧best=[x,y]∧pR tup y H (kf i)∧∀j',j'<j→HT.lexLt (kf j') (kf i)=false
theorem Ku{x y:V}{its:List Value}(r:Vals [x,y] its):∃u v,its=[u,v]∧RelV x u∧RelV y v:=by
 cases r with
 |cons r1 rr =>
  cases rr with
  |cons r2 rr =>
   cases rr
   exact⟨_,_,rfl,r1,r2⟩
theorem Ko{its:List Value}(r:Vals [] its):its=[]:=by
 cases r;rfl
theorem aad{l q S it:Addr}{tup:Bool}{kf:Nat→List Int}{xs:List V}{H0:Hp}{kw:List (Str×Value)}{R:Result→Shared→Prop}(hc:X.calm=true)(hu:X.A.in1.units<cLine)(turn:Ax X σ q tup kf xs H0)(hl:H0 l=some (.lst xs))(hS0:H0 S=none)
  (hR:∀i x v s' H',xs[i]?=some x→(∀j',j'<xs.length→HT.lexLt (kf j') (kf i)=false)→Inv X pins σ H' s'→aY H0 H'→RelV x v→R (.ok (.ret v)) s')
  (hE:xs=[]→∀s' H',Inv X pins σ H' s'→aY H0 H'→∃n d,kw=[(n,d)]∧R (.ok (.ret d)) s') :
  ∀(r j:Nat) (H:Hp) (s:Shared) (best:List V),xs.length - j=r→j≤xs.length→Inv X pins σ H s→aY H0 H→H S=some (.lst best)→tG X pins H it→s.heap.IsListIter it l j→acP tup kf xs H j best →
   codeAny (model X.prog X.w) X.A (.builtin "min.loop" ⟨[.ref it,.ref q,.ref S],kw⟩) R s:=by
 have hname:(toString "min"++toString ".loop" : String) = "min.loop":=by decide
 have T:=Nz (P:=X.prog) (w:=X.w) (K:=X.K) (tg:=.Name "x" ⟨0,0,0,0⟩) l it
 have wr:∀{H:Hp} {o:HO},aY H0 H→aY H0 (upd H S o):=fun s b o e=>by rw[aO (bj e hS0)];exact s _ _ e
 have nit:∀{H:Hp} {b:List V} {o:HO},H S=some (.lst b)→tG X pins H it→tG X pins (upd H S o) it:=fun hS f=>f.at (by rw[aO (fun z=>by have:=f.1;rw[z,hS]at this;cases this)];exact f.1)
 intro r
 induction r with
 |zero =>
  intro j H s best hr hj I s0 hS f st hb
  have hjl:j=xs.length:=by omega
  obtain⟨z,its,n,rv,hl',e⟩:=I.HR hS
  refine codeAny_builtin PySem.F.entry_min_loop ?_
  rw[Around.under_plainId PySem.F.plain_min_loop _]
  show wpAny _ X.A.in1 (seqItems? (.ref S) >>= _) _ _ _
  refine wpAny_bind (wpAny_seqItems e rfl ?_)
  show wpAny _ X.A.in1 (tryCatch (pyNext (.ref it)) _ >>= _) _ _ _
  refine wpAny_bind (wpAny_tryCatch (wpAny_mono (T.done X.in1 rfl rfl rfl hc j pins s σ H _ I.in1 (fun b hb=>(List.mem_singleton.mp hb)▸f) st ⟨xs,SqL.of (s0 _ _ hl),by omega⟩) (fun r1 s1 ⟨hr1,I1⟩=>?_) fun _ _ z=>z))
  subst hr1
  have I1:=Inv.ad7 I.ok I1
  obtain⟨_,its2,n2,rv2,_,e2⟩:=I1.HR hS
  rcases hb with ⟨h0,hb⟩|⟨i,x,y,hi,hx,hb,hk,hm⟩
  ·subst hb
   have:=Ko rv
   subst this
   obtain⟨nn,d,ekw,rr⟩:=hE (List.length_eq_zero_iff.mp (by omega)) s1 H I1 s0
   subst ekw
   exact wpAny_bind (wpAny_rule (wpAny_pure rr))
  ·subst hb
   obtain⟨vx,vy,rfl,rx,ry⟩:=Ku rv
   show wpAny _ X.A.in1 (updateSeq S (fun _=>#[]) >>= _) _ _ _
   refine wpAny_bind (wpAny_updateSeq e2 rfl (wpAny_bind (wpAny_letGo (wpAny_pure ?_))))
   exact hR i x vx _ _ hx (fun j' h=>hm j' (by omega)) (I1.R9 (its':=[]) (ys:=[]) (t':=s1.toks) hS e2 rfl .nil (Nat.zero_le _)) (wr s0) rx
 |succ r ih =>
  intro j H s best hr hj I s0 hS f st hb
  have hjl:j<xs.length:=by omega
  obtain⟨z,its,n,rv,hl',e⟩:=I.HR hS
  refine codeAny_builtin PySem.F.entry_min_loop ?_
  rw[Around.under_plainId PySem.F.plain_min_loop _]
  show wpAny _ X.A.in1 (seqItems? (.ref S) >>= _) _ _ _
  refine wpAny_bind (wpAny_seqItems e rfl ?_)
  show wpAny _ X.A.in1 (tryCatch (pyNext (.ref it)) _ >>= _) _ _ _
  have hx:xs[j]?=some xs[j]:=List.getElem?_eq_getElem hjl
  generalize xs[j]=x at hx
  obtain⟨lits,lrv,lp,_⟩:=I.list (SqL.of (K:=X.K) (s0 _ _ hl))
  obtain⟨u,hu',ru⟩:=lrv.get hx
  refine wpAny_bind (wpAny_tryCatch (wpAny_pyNext_list_item st lp.isList (x:=u) (by simpa using hu') fun h' st' sb=>?_))
  obtain⟨f0,f1,f2,f3,f4,f5⟩:=id f
  have I1:Inv X pins σ H {s with heap:=h'}:=I.turned (t':=s.toks) (fun b o hb e=>(sb.2 b hb).trans e) f0 f1 f3 f4 f5
  show wpAny _ X.A.in1 (tryCatch (holding [u] (call (.ref q) [u])) _ >>= _) _ _ _
  refine wpAny_bind (wpAny_tryCatch (wpAny_holding (aaM turn I1 s0 f st' hx ru fun ku s2 y2 H2 I2 sm2 f2 st2 ry2 ka2=>?_)))
  have hS2:=sm2 _ _ hS
  obtain⟨_,its2,n2,rv2,_,e2⟩:=I2.HR hS2
  have s02:=s0.trans sm2
  have new:∀{s':Shared},Inv X pins σ (upd H2 S (.lst [x,y2])) s'→s'.heap.IsListIter it l (j+1)→(∀j',j'<j+1→HT.lexLt (kf j') (kf j)=false)→codeAny (model X.prog X.w) X.A (.builtin "min.loop" ⟨[.ref it,.ref q,.ref S],kw⟩) R s':=fun{s'} I' st' hm=>by
   refine ih (j+1) _ s' [x,y2] (by omega) hjl I' (wr s02) aX (nit hS2 f2) st' (.inr ⟨j,x,y2,Nat.lt_succ_self _,hx,rfl,ka2.upT fun b xs e=>?_,hm⟩)
   rw[aO (cB e hS2 (by intro z;cases z))];exact e
  have itk:∀{f:Array Value→Array Value},(s2.heap.update S (Obj.mapSeq f)).IsListIter it l (j+1):=fun{f}=>by
   obtain⟨o,eo,c,d⟩:=st2
   refine⟨o,?_,c,d⟩
   rw[Heap.get?_update_other s2.heap _ (fun z=>by have:=f2.1;rw[← z,hS2]at this;cases this)]
   exact eo
  rcases hb with ⟨h0,hb⟩|⟨i,xb,yb,hi,hxb,hb,hk,hm⟩
  ·subst hb
   have:=Ko rv
   subst this
   have:=Ko rv2
   subst this
   show wpAny _ X.A.in1 (updateSeq S (fun _=>#[u,ku]) >>= _) _ _ _
   refine wpAny_bind (wpAny_updateSeq e2 rfl ?_)
   rw[hname]
   refine wpAny_pure ⟨plainId_quiet PySem.F.plain_min_loop _,new (I2.R9 (its':=[u,ku]) (ys:=[x,y2]) (t':=s2.toks) hS2 e2 rfl (.cons ru (.cons ry2 .nil)) (by show 2≤sizeLine;decide)) itk fun j' hj'=>?_⟩
   have:j'=j:=by omega
   rw[this]
   cases q:HT.lexLt (kf j) (kf j)with
   |false=>rfl
   |true =>
    exfalso
    have irr:∀l:List Int,HT.lexLt l l=false:=fun l=>by
     induction l with
     |nil=>rfl
     |cons a r ih=>rw[HT.jz,if_pos rfl];exact ih
    rw[irr]at q;cases q
  ·subst hb
   obtain⟨vx,vy,rfl,rx,ry⟩:=Ku rv
   obtain⟨vx2,vy2,rfl,rx2,ry2'⟩:=Ku rv2
   show wpAny _ X.A.in1 (tryCatch (holding [u,ku] (richCompare .Lt ku vy >>= _)) _ >>= _) _ _ _
   refine wpAny_bind (wpAny_tryCatch (wpAny_holding (wpAny_bind (ac_ (A:=X.A.in1) I2 ka2 (hk.up sm2) ry2 ry hu ?_))))
   refine wpAny_bind (wpAny_holding (wpAny_truthy_bool ?_))
   refine wpAny_bind (wpAny_letGo (wpAny_pure ?_))
   cases hb':HT.lexLt (kf j) (kf i)with
   |true =>
    simp only[if_true]
    refine wpAny_bind ?_
    refine wpAny_updateSeq e2 rfl (wpAny_bind (wpAny_letGo ?_))
    rw[hname]
    refine wpAny_pure ⟨plainId_quiet PySem.F.plain_min_loop _,new (I2.R9 (its':=[u,ku]) (ys:=[x,y2]) (t':=s2.toks) hS2 e2 rfl (.cons ru (.cons ry2 .nil)) (by show 2≤sizeLine;decide)) itk fun j' hj'=>?_⟩
    cases q:HT.lexLt (kf j') (kf j)with
    |false=>rfl
    |true =>
     exfalso
     by_cases ej:j'=j
     ·subst ej
      have irr:∀l:List Int,HT.lexLt l l=false:=fun l=>by
       induction l with
       |nil=>rfl
       |cons a r ih=>rw[HT.jz,if_pos rfl];exact ih
      rw[irr]at q;cases q
     ·have:=hm j' (by omega)
      rw[Km q hb']at this
      cases this
   |false =>
    simp only[Bool.false_eq_true,if_false]
    refine wpAny_bind (wpAny_letGo ?_)
    rw[hname]
    refine wpAny_pure ⟨plainId_quiet PySem.F.plain_min_loop _,ih (j+1) H2 s2 [xb,yb] (by omega) hjl I2 s02 hS2 f2 st2 (.inr ⟨i,xb,yb,by omega,hxb,rfl,hk.up sm2,fun j' hj'=>?_⟩)⟩
    by_cases ej:j'=j
    ·rw[ej];exact hb'
    ·exact hm j' (by omega)
end
end L2
end
section
set_option Elab.async false
set_option linter.all false
set_option maxRecDepth 100000
set_option maxHeartbeats 200000
namespace L2
open PySem PySem.Spec PyProof.Rows
theorem QZ(a v:Value):argsOk "min" ⟨[a],[(Str.ofString "key",v)]⟩:=kmk_min_key a v
theorem JN(a v u:Value):argsOk "min" ⟨[a],[(Str.ofString "key",v),(Str.ofString "default",u)]⟩:=by unfold argsOk;kernel_rfl
structure W2(X:Cx)(d:Gf)(p:Str)(k:Nat):Prop where
 ok:wZ X.N X.env.scope d.scope [(p,k)]
 loc:d.scope.names.lookup p=some .local
 cell:∀y∈d.scope.names,y.2≠.cell
 co:d.scope.isCoroutine=false
 gen:d.scope.isGenerator=false
 bind:∀(pm cdv ct:Value) (cl:List (Str×Addr)) (v:Value),bindArgs (PySem.W.kla_fn "<lambda>" d.qual d.params d.body d.scope cl pm cdv ct) ⟨[v],[]⟩=pure [(p,v)]
def Qa(te:TE)(k:Nat)(tup:Bool)(kf:Nat→List Int)(xs:List V)(σ:St)(H:Hp):Prop:=∀i x,xs[i]?=some x→∀H3,aY H H3→te ((wipe σ [k]).set k (some x)) H3 fun y H4=>aY H3 H4∧pR tup y H4 (kf i)
section
variable {X:Cx}{pins:List (Addr×Obj)}{σ:St}{H:Hp}{s:Shared}
theorem Hv.up{H H':Hp}{d:Gf}{cl:List (Str×Addr)}{q:Addr}(h:Hv H d cl q)(s:aY H H'):Hv H' d cl q:=let ⟨c,a,b⟩:=h;⟨c,s _ _ a,s _ _ b⟩
theorem Pq{d:Gf}{p:Str}{k:Nat}{te:TE}{q:Addr}{tup:Bool}{kf:Nat→List Int}{xs:List V}{H0:Hp}(hc:X.calm=true)(hN:X.N.Nodup)(L:W2 X d p k)(hd:X.A.depth<recursionLimit)
  (he:∀(s:Shared) (H:Hp) (L q c':Addr) (cl:List (Str×Addr)),PE (X.lam s H (PySem.W.envX d.qual d.scope L q (.ref c') cl)) d.body te) (il:Hv H0 d (bx X.env.cells d.scope.names []) q) (kb:Qa te k tup kf xs σ H0):Ax X σ q tup kf xs H0 :=
 fun i x v pins s H2 hx r I sm=>ZS hc I L.ok hN L.loc L.cell L.co L.gen L.bind hd (il.up sm) r (fun s H L c' cl=>he s H L q c' cl) (kb i x hx H2 sm)
theorem S8{l q:Addr}{tup:Bool}{kf:Nat→List Int}{xs:List V}{kw:List (Str×Value)}{dv:List Value}{Q:VK}(hc:X.calm=true)(hu:X.A.in1.units<cLine)(I:Inv X pins σ H s)(turn:Ax X σ q tup kf xs H)(hl:H l=some (.lst xs))
  (hargs:argsOk "min" ⟨[.ref l],kw⟩) (hbp:Builtin.Builtins.bindParams "min" ["key","default"] 0 ⟨[],kw⟩=pure [some (.ref q),dv.head?]) (hdv:dv=[]∨dv=[.none])
  (h0:xs=[]→dv=[.none]∧∀H',aY H H'→Q .non H') (h1:∀i x H',xs[i]?=some x→(∀j',j'<xs.length→HT.lexLt (kf j') (kf i)=false)→aY H H'→Q x H') :
  wpAny (model X.prog X.w) X.A (call (.builtin "min") [.ref l] kw) (EP X pins σ Q) X.xe s:=by
 have hname:(toString "min"++toString ".loop" : String) = "min.loop":=by decide
 obtain⟨lits,lrv,lp,_⟩:=I.list (SqL.of (K:=X.K) hl)
 refine kmk_tree PySem.F.kind_min PySem.F.plain_min PySem.F.entry_min hargs ?_
 show wpAny _ X.A.in1 (Builtin.Builtins.bindParams "min" ["key","default"] 0 ⟨[],kw⟩ >>= _) _ _ s
 refine wpAny_bind (wpAny_of_eq hbp ?_)
 refine wpAny_bind (wpAny_pure ?_)
 refine wpAny_bind (wpAny_pyIter_list lp.isList ?_)
 refine wpAny_bind (wpAny_newList ?_ (Nat.zero_le _))
 rw[hname]
 generalize hit:s.heap.objs.size=it
 have I1:Inv X pins σ H {s with heap:=s.heap.push {cls:=.type "list_iterator",data:=.fields #[.ref l,.int 0 0]}}:=I.kept (t':=s.toks) fun b o e=>Heap.get?_push_of_some _ e
 have fit:tG X pins H it:=I.Yo (Nat.le_of_eq hit) (I.hok.fresh (Nat.le_of_eq hit))
 have hS:H (s.heap.push {cls:=.type "list_iterator",data:=.fields #[.ref l,.int 0 0]}).objs.size=none:=I1.fresh
 have I2:=I1.adz (its:=[]) (ys:=[]) (t':=s.toks) .nil (Nat.zero_le _)
 have st2:((s.heap.push {cls:=.type "list_iterator",data:=.fields #[.ref l,.int 0 0]}).push {cls:=.type "list",data:=.seq ([]:List Value).toArray}).IsListIter it l 0:=⟨_,Heap.get?_push_of_some _ (by rw[← hit];exact Heap.get?_push_size _ rfl),rfl,rfl⟩
 have same0:=ji (o:=.lst []) hS
 have nS:it≠(s.heap.push {cls:=.type "list_iterator",data:=.fields #[.ref l,.int 0 0]}).objs.size:=by rw[Heap.size_push,← hit];exact Nat.ne_of_lt (Nat.lt_succ_self _)
 refine wpAny_pure ⟨plainId_quiet PySem.F.plain_min_loop _,?_⟩
 refine aad (H0:=H) (tup:=tup) (kf:=kf) (xs:=xs) hc hu turn hl hS (fun i x v s' H' hx hm I' sm r=>?_) (fun e s' H' I' sm=>?_) _ 0 _ _ [] rfl (Nat.zero_le _) I2 same0 aX (fit.at (by rw[aO nS];exact fit.1)) st2 (.inl ⟨rfl,rfl⟩)
 ·exact⟨x,H',I',r,h1 i x H' hx hm sm⟩
 ·obtain⟨e1,e2⟩:=h0 e
  subst e1
  exact⟨_,_,rfl,.non,H',I',rfl,e2 H' sm⟩
def Zy(v:V):Prop:=v=.non
def tKw(tl tlam:TE)(r:St→V→V→Hp→VK→Prop):TE:=fun σ H Q=>tl σ H fun v H1=>tlam σ H1 fun qv H2=>r σ v qv H2 Q
variable {d:Gf}{p x:Str}{k:Nat}{te tl tlam:TE}{e lamE:Expr}{pn pos kp kp2 kp3:Pos}{id:String}{r:St→V→V→Hp→VK→Prop}
theorem aaf(hg:Gl X x)(hm:X.mg x=none)(hbm:bootBuiltins x=some (.builtin id))(hl:PE X e tl)(hlam:PE X lamE tlam)
  (hcall:∀pins s σ H v u qv qu Q,Inv X pins σ H s→RelV v u→RelV qv qu→r σ v qv H Q→wpAny (model X.prog X.w) X.A (call (.builtin id) [u] [(Str.ofString "key",qu)]) (EP X pins σ Q) X.xe s)
  (hn:x≠"__name__":=by decide) (hdb:(x==("__debug__" : Str))=false:=by decide) (hs:starEach [e] X.env=(false,eval e X.env)::starEach [] X.env:=by rfl) :
  PE X (.Call (.Name x pn) [e] [⟨some "key",lamE,kp⟩] pos) (tKw tl tlam r):=by
 intro pins s σ H Q I h
 refine wpAny_Call_Name_kw (CK I hg hm hbm ?_ hn hdb)
 refine callWith_kw (thn ((aj hl aq hs) pos pins s σ H (fun vs H1=>match vs with | [v]=>tlam σ H1 fun qv H2=>r σ v qv H2 Q | _=>False) I h) fun us s1 ⟨vs,H1,I1,r1,q1⟩=>?_) (by rw[hs];rfl) (by rw[hs];rfl)
 cases vs with
 |nil=>exact q1.elim
 |cons v vt =>
  cases vt with
  |cons _ _=>exact q1.elim
  |nil =>
   obtain⟨u,rfl,ru⟩:=vals1 r1
   refine thn ((QX hlam Za) pos pins s1 σ H1 (fun ws H2=>match ws with | [qv]=>r σ v qv H2 Q | _=>False) I1 q1) fun kus s2 ⟨ws,H2,I2,r2,q2⟩=>?_
   cases ws with
   |nil=>exact q2.elim
   |cons qv wt =>
    cases wt with
    |cons _ _=>exact q2.elim
    |nil =>
     obtain⟨qu,rfl,rqu⟩:=vals1 r2
     have hks:(backToKw pos (keywordEach [⟨some (Str.ofString "key"),lamE,kp⟩] X.env)).filterMap (·.1)=[Str.ofString "key"]:=rfl
     rw[hks,List.zip_cons_cons,List.zip_nil_left]
     exact hcall pins s2 σ H2 v u qv qu Q I2 ru rqu q2
theorem adh(hg:Gl X x)(hm:X.mg x=none)(hbm:bootBuiltins x=some (.builtin id))(hl:PE X e tl)(hlam:PE X lamE tlam){dE:Expr}(hdE:PE X dE (tC .non))
  (hcall:∀pins s σ H v u qv qu Q,Inv X pins σ H s→RelV v u→RelV qv qu→r σ v qv H Q→wpAny (model X.prog X.w) X.A (call (.builtin id) [u] [(Str.ofString "key",qu),(Str.ofString "default",.none)]) (EP X pins σ Q) X.xe s)
  (hn:x≠"__name__":=by decide) (hdb:(x==("__debug__" : Str))=false:=by decide) (hs:starEach [e] X.env=(false,eval e X.env)::starEach [] X.env:=by rfl) :
  PE X (.Call (.Name x pn) [e] [⟨some "key",lamE,kp⟩,⟨some "default",dE,kp2⟩] pos) (tKw tl tlam r):=by
 intro pins s σ H Q I h
 refine wpAny_Call_Name_kw (CK I hg hm hbm ?_ hn hdb)
 refine callWith_kw (thn ((aj hl aq hs) pos pins s σ H (fun vs H1=>match vs with | [v]=>tlam σ H1 fun qv H2=>r σ v qv H2 Q | _=>False) I h) fun us s1 ⟨vs,H1,I1,r1,q1⟩=>?_) (by rw[hs];rfl) (by rw[hs];rfl)
 cases vs with
 |nil=>exact q1.elim
 |cons v vt =>
  cases vt with
  |cons _ _=>exact q1.elim
  |nil =>
   obtain⟨u,rfl,ru⟩:=vals1 r1
   have q1':tlam σ H1 fun qv H2=>Zy V.non∧r σ v qv H2 Q:=by
    have e:(fun qv H2=>Zy V.non∧r σ v qv H2 Q)=fun qv H2=>r σ v qv H2 Q:=by
     funext qv H2
     exact propext ⟨fun h=>h.2,fun h=>⟨rfl,h⟩⟩
    rw[e]
    exact q1
   refine thn ((QX hlam (QX hdE Za)) pos pins s1 σ H1 (fun ws H2=>match ws with | [qv,qn]=>Zy qn∧r σ v qv H2 Q | _=>False) I1 q1') fun kus s2 ⟨ws,H2,I2,r2,q2⟩=>?_
   cases ws with
   |nil=>exact q2.elim
   |cons qv wt =>
    cases wt with
    |nil=>exact q2.elim
    |cons qn wt =>
     cases wt with
     |cons _ _=>exact q2.elim
     |nil =>
      obtain⟨qu,qnu,rfl,rqu,rqn⟩:=vals2 r2
      have en:qn=.non:=q2.1
      subst en
      cases (show qnu=Value.none from rqn)
      have hks:(backToKw pos (keywordEach [⟨some (Str.ofString "key"),lamE,kp⟩,⟨some (Str.ofString "default"),dE,kp2⟩] X.env)).filterMap (·.1)=[Str.ofString "key",Str.ofString "default"]:=rfl
      rw[hks,List.zip_cons_cons,List.zip_cons_cons,List.zip_nil_left]
      exact hcall pins s2 σ H2 v u qv qu Q I2 ru rqu q2.2
def Tn(te:TE)(k:Nat)(d:Gf)(cl:List (Str×Addr))(dflt:Bool):St→V→V→Hp→VK→Prop:=fun σ v qv H2 Q=>∃l xs q tup kf,v=.ref l∧H2 l=some (.lst xs)∧qv=.ref q∧Hv H2 d cl q∧Qa te k tup kf xs σ H2 ∧
 (xs=[]→dflt=true∧∀H',aY H2 H'→Q .non H')∧∀i x H',xs[i]?=some x→(∀j',j'<xs.length→HT.lexLt (kf j') (kf i)=false)→aY H2 H'→Q x H'
theorem XR(hc:X.calm=true)(hN:X.N.Nodup)(hd:X.A.depth<recursionLimit)(hu:X.A.in1.units<cLine)(L:W2 X d p k)(he:∀(s:Shared) (H:Hp) (L q c':Addr) (cl:List (Str×Addr)),PE (X.lam s H (PySem.W.envX d.qual d.scope L q (.ref c') cl)) d.body te) :
  ∀pins s σ H v u qv qu Q,Inv X pins σ H s→RelV v u→RelV qv qu→Tn te k d (bx X.env.cells d.scope.names []) false σ v qv H Q→wpAny (model X.prog X.w) X.A (call (.builtin "min") [u] [(Str.ofString "key",qu)]) (EP X pins σ Q) X.xe s:=by
 rintro pins s σ H v u qv qu Q I rv rq ⟨l,xs,q,tup,kf,rfl,hl,rfl,il,kb,h0,h1⟩
 cases (show u=Value.ref l from rv)
 cases (show qu=Value.ref q from rq)
 exact S8 (dv:=[]) hc hu I (Pq hc hN L hd he il kb) hl (QZ _ _) rfl (.inl rfl) (fun e=>absurd (h0 e).1 (by decide)) h1
theorem VG(hc:X.calm=true)(hN:X.N.Nodup)(hd:X.A.depth<recursionLimit)(hu:X.A.in1.units<cLine)(L:W2 X d p k)(he:∀(s:Shared) (H:Hp) (L q c':Addr) (cl:List (Str×Addr)),PE (X.lam s H (PySem.W.envX d.qual d.scope L q (.ref c') cl)) d.body te) :
  ∀pins s σ H v u qv qu Q,Inv X pins σ H s→RelV v u→RelV qv qu→Tn te k d (bx X.env.cells d.scope.names []) true σ v qv H Q→wpAny (model X.prog X.w) X.A (call (.builtin "min") [u] [(Str.ofString "key",qu),(Str.ofString "default",.none)]) (EP X pins σ Q) X.xe s:=by
 rintro pins s σ H v u qv qu Q I rv rq ⟨l,xs,q,tup,kf,rfl,hl,rfl,il,kb,h0,h1⟩
 cases (show u=Value.ref l from rv)
 cases (show qu=Value.ref q from rq)
 exact S8 (dv:=[.none]) hc hu I (Pq hc hN L hd he il kb) hl (JN _ _ _) rfl (.inr rfl) (fun e=>⟨rfl,(h0 e).2⟩) h1
end
end L2
end
section
set_option Elab.async false
set_option linter.all false
set_option maxRecDepth 100000
set_option maxHeartbeats 400000
namespace L2
open PySem PySem.Spec PyProof.Rows
theorem Fj{α β:Type}{f:α→β}:∀{l:List α} {ps:List β},ps.Perm (l.map f)→∃l':List α,l'.Perm l∧l'.map f=ps
 |[],ps,h=>⟨[],.nil,by rw[List.map_nil]at h ⊢;exact(List.perm_nil.mp h).symm⟩
 |a::l,ps,h=>by
  rw[List.map_cons]at h
  have hm:f a∈ps:=h.mem_iff.mpr List.mem_cons_self
  obtain⟨p1,p2,rfl⟩:=List.append_of_mem hm
  have h2:(p1++p2).Perm (l.map f):=List.Perm.cons_inv (List.perm_middle.symm.trans h)
  obtain⟨l',h3,h4⟩:=Fj h2
  obtain⟨l1,l2,rfl,e1,e2⟩:=List.map_eq_append_iff.mp h4
  exact⟨l1++a::l2,List.perm_middle.trans (List.Perm.cons a h3),by rw[List.map_append,List.map_cons,e1,e2]⟩
theorem Nq{α β:Type}(da:α)(db:β):∀(as:List α) (bs:List β),as.length=bs.length→as.zip bs=(List.range bs.length).map fun i=>(as.getD i da,bs.getD i db)
 |[],[],_=>rfl
 |a::as,b::bs,h=>by
  rw[List.zip_cons_cons,List.length_cons,List.range_succ_eq_map,List.map_cons,List.map_map,Nq da db as bs (by simpa using h)]
  rfl
 |[],_::_,h=>by simp at h
 |_::_,[],h=>by simp at h
theorem Wo:∀a b:List Int,PyProof.Rows.lexLt itemOrd (a.map Sum.inl) (b.map Sum.inl)=HT.lexLt a b
 |[],[]=>rfl
 |[],_::_=>rfl
 |_::_,[]=>rfl
 |x::a,y::b=>by
  rw[List.map_cons,List.map_cons,HT.jz]
  by_cases h:x=y
  ·subst h
   rw[if_pos rfl,lex_self]
   exact Wo a b
  ·rw[if_neg h,lex_diff fun z=>h (Sum.inl.inj z)]
   rfl
theorem M7:∀{vs:List Value} {ns:List Int} (i:Nat),IntsAre vs ns→tupItems (fun _=>false) i vs=some (ns.map Sum.inl)
 |_,_,i,.nil=>rfl
 |_,_,i,.cons n t h=>by
  have ih:=M7 (i+1) h
  simp only[tupItems,Bool.false_eq_true,if_false,ih]
  rfl
structure abA(P:Program)(w:World)(s:Shared)(ks:List Value)(kf:Nat→List Int) where
 κ:KeyKind
 kd:SortKind
 cv:List Int→κ.α
 key:∀m,m<ks.length→∀v,ks[m]?=some v→κ.keyOf v=some (cv (kf m))
 lt:∀m n,m<ks.length→n<ks.length→κ.blt (cv (kf m)) (cv (kf n))=HT.lexLt (kf m) (kf n)
 at_:PyProof.Rows.G.LtAt P w s κ kd
 kind:∀(A:Around) (E:Value→Shared→Prop) {Q:SortKind→Shared→Prop},2≤ks.length→Q kd s→wpAny (model P w) A (keyKind' ks.toArray) Q E s
section
variable {X:Cx}{pins:List (Addr×Obj)}{σ:St}{H:Hp}{s:Shared}
theorem aaE{ks:List Value}{kf:Nat→List Int}(h:∀m,m<ks.length→∃i t,ks[m]?=some (.int i t)∧kf m=[i])(P:Program)(w:World)(s:Shared):Nonempty (abA P w s ks kf):=by
 have hi:IntsAre ks ((List.range ks.length).map fun m=>(kf m).headD 0):=O4 (by rw[List.length_map,List.length_range]) fun j v e=>by
  have hj:j<ks.length:=(List.getElem?_eq_some_iff.mp e).1
  obtain⟨i,t,e1,e2⟩:=h j hj
  rw[e]at e1
  refine⟨i,t,?_,Option.some.inj e1⟩
  rw[List.getElem?_map,List.getElem?_range hj,Option.map_some,e2]
  rfl
 refine⟨⟨PyProof.Rows.intKind,oneType',fun l=>l.headD 0,fun m hm v e=>?_,fun m n hm hn=>?_,?_,fun A E Q h2 q=>?_⟩⟩
 ·obtain⟨i,t,e1,e2⟩:=h m hm
  rw[e]at e1
  cases e1
  rw[e2]
  rfl
 ·obtain⟨i,t,e1,e2⟩:=h m hm
  obtain⟨j,u,e3,e4⟩:=h n hn
  rw[e2,e4,Ay]
  rfl
 ·intro A E x y a b Q hx hy q
  cases x<;>simp only[PyProof.Rows.intKind,reduceCtorEq,Option.some.injEq]at hx
  cases y<;>simp only[PyProof.Rows.intKind,reduceCtorEq,Option.some.injEq]at hy
  cases hx;cases hy
  exact PySem.W.kat_lt_int q
 ·rw[ksk_kind (keys:=ks.toArray) (by simpa using hi) (by simpa using h2)]
  exact wpAny_pure q
theorem aas{ks:List Value}{kf:Nat→List Int}{s:Shared}(h:∀m,m<ks.length→∃a its,ks[m]?=some (.ref a)∧IsTup s.heap a its.toArray∧IntsAre its (kf m)∧kf m≠[])(P:Program)(w:World):Nonempty (abA P w s ks kf):=by
 have htup:∀(ks:List Value) (kf:Nat→List Int),(∀m,m<ks.length→∃a its,ks[m]?=some (.ref a)∧IsTup s.heap a its.toArray∧IntsAre its (kf m)∧kf m≠[])→∃fs,TupsOf s.heap (fun _=>false) ks fs:=by
  intro ks
  induction ks with
  |nil=>intro _ _;exact⟨[],.nil⟩
  |cons v r ih =>
   intro kf h
   obtain⟨fs,hf⟩:=ih (fun m=>kf (m+1)) fun m hm=>by
    obtain⟨a,its,e,r⟩:=h (m+1) (by simpa using hm)
    exact⟨a,its,by simpa using e,r⟩
   obtain⟨a,its,e,⟨o,ho,hc,n,hd⟩,hi,hne⟩:=h 0 (by simp)
   have e:v=.ref a:=by simpa using e
   have hs:∃f i t,its=f::its.tail∧f=.int i t:=by
    generalize hk0:kf 0=k0 at hi hne
    cases hi with
    |nil=>exact absurd rfl hne
    |cons i t _=>exact⟨_,i,t,rfl,rfl⟩
   obtain⟨f,i,t,e2,e3⟩:=hs
   refine⟨f::fs,.cons ⟨a,o,its.toArray,n,e,ho,hc,hd,?_,fun _=>⟨i,t,e3⟩,fun z=>by cases z⟩ hf⟩
   rw[e2]
   rfl
 obtain⟨fs,hfs⟩:=htup ks kf h
 refine⟨⟨PyProof.Rows.G.tupKindC s.heap (fun _=>false),tuples' true,fun l=>l.map Sum.inl,fun m hm v e=>?_,fun m n hm hn=>Wo _ _,PyProof.Rows.G.tupC_ltAt true (PyProof.Rows.G.KeepsTups.refl _),fun A E Q h2 q=>?_⟩⟩
 ·obtain⟨a,its,e1,⟨o,ho,hc,n,hd⟩,hi,_⟩:=h m hm
  rw[e]at e1
  cases e1
  show PyProof.Rows.G.tupKeyC s.heap (fun _=>false) (.ref a)=_
  unfold PyProof.Rows.G.tupKeyC
  have e1:PyProof.Rows.G.isTupObj s.heap (.ref a)=true:=by simp[PyProof.Rows.G.isTupObj,ho,hc]
  rw[if_pos e1]
  simp only[tupKey,ho,hd]
  exact M7 0 hi
 ·exact tup_kind (by rw[PyProof.Rows.G.TupsOf.length hfs];omega) hfs q
theorem abr{tup:Bool}{kf:Nat→List Int}{ys:List V}{ks:List Value}(I:Inv X pins σ H s)(r:Vals ys ks)(h:∀m,m<ys.length→∃y,ys[m]?=some y∧pR tup y H (kf m))(hne:tup=true→∀m,kf m≠[]):Nonempty (abA X.prog X.w s ks kf):=by
 have hl:=r.length
 cases tup with
 |false =>
  refine aaE (fun m hm=>?_) X.prog X.w s
  obtain⟨y,ey,i,e1,e2⟩:=h m (by omega)
  obtain⟨u,eu,ru⟩:=r.get ey
  subst e2
  obtain⟨t,e3⟩:=(show ∃t,u=Value.int i t from ru)
  exact⟨i,t,by rw[eu,e3],e1⟩
 |true =>
  refine aas (fun m hm=>?_) X.prog X.w
  obtain⟨y,ey,a,e1,e2⟩:=h m (by omega)
  obtain⟨u,eu,ru⟩:=r.get ey
  subst e1
  cases (show u=Value.ref a from ru)
  obtain⟨its,v1,p1,_⟩:=I.tuple (SqT.of (K:=X.K) e2)
  exact⟨a,its,eu,p1,intsAre_of v1,hne rfl m⟩
end
end L2
end
section
set_option Elab.async false
set_option linter.all false
set_option maxRecDepth 100000
set_option maxHeartbeats 400000
namespace L2
open PySem PySem.Spec PyProof.Rows
def Ea(kf:Nat→List Int)(n:Nat)(is:List Nat):Prop:=is.Perm (List.range n)∧is.Pairwise fun i j=>HT.lexLt (kf j) (kf i)=false
section
variable {X:Cx}{pins:List (Addr×Obj)}{σ:St}{H:Hp}{s:Shared}
theorem Inv.adopt{a:Addr}{o:HO}{h':Heap}{t':Nat}(I:Inv X pins σ H s)(f:tG X pins H a)(k:∀b u,b≠a→s.heap.get? b=some u→h'.get? b=some u)(hex:∃u,h'.get? a=some u)(new:iz X.prog X.w (upd H a o) h' a o) :
  Inv X pins σ (upd H a o) {s with heap:=h',toks:=t'}:=by
 obtain⟨f0,f1,f2,f3,f4,f5⟩:=f
 have ne:∀b u,H b=some u→b≠a:=fun b u e=>bj e f0
 refine I.step (g':=s.gens) (d':=s.drawn) (ch:=[a]) (fun b hb=>?_) (fun b u _ _ hc e _=>k b u (fun z=>hc (by simp[z])) e) (fun b u _ _ hc e _=>⟨u.slots,k b u (fun z=>hc (by simp[z])) e⟩) (fun b u hc e n=>by rw[aO (fun z=>hc (by simp[z]))];exact n)
  (fun b u hc e=>⟨u,k b u (fun z=>hc (by simp[z])) e⟩) (fun b xs e=>by rw[aO (ne _ _ e)];exact e) (fun b u v e=>by rw[aO (ne _ _ e)];exact e) (fun b ps e=>⟨#[],by rw[aO (ne _ _ e),e];simp⟩) (fun m hm=>?_) (fun b u e=>?_) I.bare
 ·have e:b=a:=by simpa using hb
  subst e
  exact⟨f3,f1,f4,f5⟩
 ·obtain⟨ob,es,ep,ho,r⟩:=hm
  exact⟨ob,es,ep,k _ ob (Ne.symm f1) ho,r⟩
 ·by_cases z:b=a
  ·subst z
   rw[aX]at e
   cases e
   exact new
  ·rw[aO z]at e
   refine(I.hok b u e).stay (fun c v hc q=>k c v ?_ q) (fun c q=>by rw[aO (ne _ _ q)];exact q) fun c xs q=>by rw[aO (ne _ _ q)];exact q
   rcases hc with rfl|hc
   ·exact z
   ·exact ne _ _ hc
theorem N6{xs:List V}{vs:List Value}(r:Vals xs vs):∀is:List Nat,(∀i∈is,i<xs.length)→Vals (is.map fun i=>xs.getD i .non) (is.map fun i=>vs.getD i .none)
 |[],_=>.nil
 |i::is,h=>by
  have hi:=h i List.mem_cons_self
  have e:xs[i]?=some xs[i]:=List.getElem?_eq_getElem hi
  obtain⟨u,eu,ru⟩:=r.get e
  refine .cons ?_ (N6 r is fun j hj=>h j (List.mem_cons_of_mem _ hj))
  show RelV (xs.getD i .non) (vs.getD i .none)
  rw[List.getD_eq_getElem?_getD,List.getD_eq_getElem?_getD,e,eu]
  exact ru
theorem Xg{ks vs:List Value}{kf:Nat→List Int}{st:SortSt}(D:abA X.prog X.w s ks kf)(hl:ks.length=vs.length)(hp:(arrOf st).Perm (ks.toArray.zip vs.toArray))(hs:SortedToK D.κ (arrOf st) vs.length) :
  ∃is,Ea kf vs.length is∧((arrOf st).map (·.2)).toList=is.map fun i=>vs.getD i .none:=by
 have hp':(arrOf st).toList.Perm (ks.zip vs):=by
  have:=Array.perm_iff_toList_perm.mp hp
  rw[ksk_zip]at this
  simpa using this
 rw[Nq .none .none ks vs hl]at hp'
 obtain⟨is,h1,h2⟩:=Fj hp'
 refine⟨is,⟨h1,?_⟩,?_⟩
 ·have hlen:is.length=vs.length:=by rw[h1.length_eq,List.length_range]
  have hsz:(arrOf st).size=vs.length:=by rw[← Array.length_toList,← h2,List.length_map,hlen]
  rw[List.pairwise_iff_getElem]
  intro i j hi hj hij
  have q:=hs i j (Nat.le_of_lt hij) (by omega)
  have kk:∀m (hm:m<is.length),KK D.κ (arrOf st) m=D.cv (kf is[m]):=fun m hm=>by
   have e1:(arrOf st)[m]?=some (ks.getD is[m] .none,vs.getD is[m] .none):=by
    rw[← Array.getElem?_toList,← h2,List.getElem?_map,List.getElem?_eq_getElem hm]
    rfl
   have hm2:is[m]<ks.length:=by
    have:is[m]∈List.range vs.length:=h1.mem_iff.mp (List.getElem_mem hm)
    rw[List.mem_range]at this
    omega
   unfold KK
   rw[e1]
   show(D.κ.keyOf (ks.getD is[m] .none)).getD D.κ.dflt=_
   rw[List.getD_eq_getElem?_getD,List.getElem?_eq_getElem hm2,D.key is[m] hm2 _ (by rw[List.getElem?_eq_getElem hm2];rfl)]
   rfl
  rw[kk i hi,kk j hj]at q
  have q:D.κ.blt (D.cv (kf is[j])) (D.cv (kf is[i]))=false:=q
  have hb:∀m (hm:m<is.length),is[m]<ks.length:=fun m hm=>by
   have:is[m]∈List.range vs.length:=h1.mem_iff.mp (List.getElem_mem hm)
   rw[List.mem_range]at this
   omega
  rw[D.lt _ _ (hb j hj) (hb i hi)]at q
  exact q
 ·rw[Array.toList_map,← h2,List.map_map]
  rfl
theorem YH{a q:Addr}{tup:Bool}{kf:Nat→List Int}{xs:List V}{vs:List Value}{n:Nat}{H0:Hp}{P:PySem.Fin→Shared→Prop}{E:Value→Shared→Prop}(turn:Ax X σ q tup kf xs H0)(hne:tup=true→∀m,kf m≠[])(I:Inv X pins σ H s)(sm:aY H0 H)(fa:tG X pins H a)(ho:s.heap.get? a=some (seqObj "list" vs.toArray n))(rv:Vals xs vs)(hz:xs.length≤sizeLine)
  (h:∀s' H' is,Inv X pins σ (upd H' a (.lst (is.map fun i=>xs.getD i .non))) s'→aY H0 H'→H' a=none→Ea kf xs.length is→P (.done (.ret .none)) s'):wpAny (model X.prog X.w) X.A.in1 (ksk_tree a (.ref q) false) P E s:=by
 have hlv:=rv.length
 have hz2:=hz
 rw[sizeLine_eq]at hz2
 unfold ksk_tree
 refine wpAny_bind (listItems_at ho rfl ?_)
 refine wpAny_bind (listUpdate_at ho rfl ?_ (by rw[List.size_toArray,sizeLine_eq];omega) (Nat.zero_le _))
 have s1:=Heap.SameBut.update s.heap a (Obj.mapSeq fun _=>(#[]:Array Value))
 obtain⟨e1,ho1⟩:∃e1,(s.heap.update a (Obj.mapSeq fun _=>(#[]:Array Value))).get? a=some (seqObj "list" #[] e1):=⟨_,get?_update_seq ho fun _=>#[]⟩
 obtain⟨f0,f1,f2,f3,f4,f5⟩:=id fa
 have I1:Inv X pins σ H {s with heap:=s.heap.update a (Obj.mapSeq fun _=>(#[]:Array Value))}:=I.turned (t':=s.toks) (fun b o hb e=>(s1.2 b hb).trans e) f0 f1 f3 f4 f5
 refine wpAny_bind (seqEpoch_at ho1 rfl ?_)
 refine wpAny_bind (wpAny_newTuple ?_ (by show vs.length≤_;rw[sizeLine_eq];omega))
 refine wpAny_bind (wpAny_newList ?_ (Nat.zero_le _))
 refine wpAny_holding ?_
 have I2:Inv X pins σ H {s with heap:=(s.heap.update a (Obj.mapSeq fun _=>(#[]:Array Value))).push (seqObj "tuple" vs.toArray 0)}:=I1.kept (t':=s.toks) fun b o e=>Heap.get?_push_of_some _ e
 have I3:=I2.adz (its:=[]) (ys:=[]) (t':=s.toks) .nil (Nat.zero_le _)
 generalize hkS:((s.heap.update a (Obj.mapSeq fun _=>(#[]:Array Value))).push (seqObj "tuple" vs.toArray 0)).objs.size=kS at I3 ⊢
 have hk0:H kS=none:=by rw[← hkS];exact I2.fresh
 have ho3:(((s.heap.update a (Obj.mapSeq fun _=>(#[]:Array Value))).push (seqObj "tuple" vs.toArray 0)).push {cls:=.type "list",data:=.seq ([]:List Value).toArray}).get? a=some (seqObj "list" #[] e1):=Heap.get?_push_of_some _ (Heap.get?_push_of_some _ ho1)
 have nak:a≠kS:=by
  have h1:a<s.heap.objs.size:=Heap.lt_size ho
  rw[← hkS,Heap.size_push,Heap.size_update]
  exact Nat.ne_of_lt (Nat.lt_succ_of_lt h1)
 have sm3:aY H0 (upd H kS (.lst [])):=sm.trans (ji hk0)
 have fa3:tG X pins (upd H kS (.lst [])) a:=fa.at (by rw[aO nak];exact f0)
 unfold ksk_rest
 refine wpAny_bind (wpAny_rule ?_)
 first
  |rw[List.forIn_toArray]
  |(rw[← Array.forIn_toList];simp only[List.toList_toArray])
  |rw[← Array.forIn_toList]
 refine wpAny_bind (ksk_fold (fun i s'=>∃H' ys,Inv X pins σ H' s'∧aY H0 H'∧tG X pins H' a∧s'.heap.get? a=some (seqObj "list" #[] e1)∧H' kS=some (.lst ys)∧ys.length=i∧∀m,m<i→∃y,ys[m]?=some y∧pR tup y H' (kf m)) vs 0 _
  ⟨_,[],I3,sm3,fa3,ho3,aX,rfl,fun m hm=>absurd hm (Nat.not_lt_zero _)⟩ ?step ?done)
 case step =>
  rintro j v s' hv ⟨H',ys,I',sm',fa',ho',hkS',hyl,hys⟩
  rw[Nat.zero_add]at hyl hys ⊢
  have hj:j<xs.length:=by have:=(List.getElem?_eq_some_iff.mp hv).1;omega
  have hx:xs[j]?=some xs[j]:=List.getElem?_eq_getElem hj
  obtain⟨u,hu',ru⟩:=rv.get hx
  rw[hv]at hu'
  cases hu'
  have I'':=I'.pinned (fp:=[a]) (fun b hb=>(List.mem_singleton.mp hb)▸fa') (fun b hb=>(List.mem_singleton.mp hb)▸⟨_,ho',fun v z=>by cases z⟩)
  refine wpAny_bind (wpAny_attempt (wpAny_mono (turn j _ v _ s' H' hx ru I'' sm') (fun ku s2 ⟨y,H2,J,ry,smJ,ka⟩=>?_) fun _ _ z=>z.elim))
  obtain⟨p1,p2,_⟩:=J.pin (a,seqObj "list" #[] e1) (List.mem_append_right _ (List.mem_append_right _ (uQ (by simp) ho')))
  have J:=J.wV
  have hkS2:=smJ _ _ hkS'
  obtain⟨z2,its2,n2,rv2,hl2,e2⟩:=J.HR hkS2
  (try dsimp only)
  refine wpAny_bind (listUpdate_at e2 rfl ?_ (by rw[List.size_toArray];omega) (by rw[Array.size_push,List.size_toArray];omega))
  refine wpAny_pure ⟨rfl,upd H2 kS (.lst (ys++[y])),ys++[y],J.R9 (its':=its2++[ku]) (t':=s2.toks) hkS2 e2 (by simp) (rv2.append (.cons ry .nil)) (by rw[List.length_append,hyl,List.length_singleton,sizeLine_eq];omega),?_,fa'.at ?_,?_,aX,by rw[List.length_append,hyl];rfl,fun m hm=>?_⟩
  ·intro b o e
   have nb:b≠kS:=fun z=>by
    have q0:H0 kS=none:=by
     cases q:H0 kS with
     |none=>rfl
     |some o=>rw[sm _ _ q]at hk0;cases hk0
    rw[z,q0]at e;cases e
   rw[aO nb]
   exact smJ _ _ (sm' _ _ e)
  ·rw[aO nak];exact p2
  ·rw[Heap.get?_update_other s2.heap _ nak.symm];exact p1
  ·have tk:∀{z:V} {l:List Int},pR tup z H2 l→pR tup z (upd H2 kS (.lst (ys++[y]))) l:=fun k=>k.upT fun b xs e=>by rw[aO (cB e hkS2 (by intro z;cases z))];exact e
   by_cases em:m=j
   ·subst em
    exact⟨y,by rw[List.getElem?_append_right (by omega),hyl,Nat.sub_self];rfl,tk ka⟩
   ·obtain⟨y',h1,h2⟩:=hys m (by omega)
    exact⟨y',by rw[List.getElem?_append_left (by omega)];exact h1,tk (h2.up smJ)⟩
 case done =>
  rintro s' ⟨H',ys,I',sm',fa',ho',hkS',hyl,hys⟩
  rw[Nat.zero_add]at hyl hys
  obtain⟨zk,ks,nk,rk,hlk,ek⟩:=I'.HR hkS'
  (try dsimp only)
  refine wpAny_bind (listItems_at ek rfl ?_)
  have hkl:ks.length=vs.length:=by omega
  obtain⟨D⟩:=abr (kf:=kf) I' rk (fun m hm=>hys m (by omega)) hne
  have tail:∀st:SortSt,(arrOf st).Perm (ks.toArray.zip vs.toArray)→SortedToK D.κ (arrOf st) vs.length→failedOf st=none→wpAny (model X.prog X.w) X.A.in1 (ksk_tail a false e1 (.ref kS) st) P E s':=fun st hp hs hf=>by
   obtain⟨is,hsb,hout⟩:=Xg D hkl hp hs
   have hsz:(arrOf st).size=vs.length:=by rw[hp.size_eq,Array.size_zip,List.size_toArray,List.size_toArray,hkl,Nat.min_self]
   unfold ksk_tail
   (try dsimp only)
   refine wpAny_bind (listUpdate_at ek rfl ?_ (by rw[List.size_toArray,hkl,sizeLine_eq];omega) (Nat.zero_le _))
   refine wpAny_bind (wpAny_letGo ?_)
   have I4:=I'.R9 (its':=[]) (ys:=[]) (f:=fun _=>#[]) (t':=s'.toks) hkS' ek rfl .nil (Nat.zero_le _)
   have ho4:(s'.heap.update kS (Obj.mapSeq fun _=>(#[]:Array Value))).get? a=some (seqObj "list" #[] e1):=by rw[Heap.get?_update_other s'.heap _ nak.symm];exact ho'
   refine wpAny_bind (seqEpoch_at ho4 rfl ?_)
   refine wpAny_bind (listUpdate_at ho4 rfl ?_ (Nat.zero_le _) (Nat.le_trans (Nat.le_of_eq (show((arrOf st).map (·.2)).size=vs.length by rw[Array.size_map,hsz])) (by rw[sizeLine_eq];omega)))
   rw[hf]
   simp only[bne_self_eq_false,Bool.false_eq_true,if_false]
   refine wpAny_pure (h _ (upd H' kS (.lst [])) is ?_ ?_ (by rw[aO nak];exact fa'.1) (by rw[hlv];exact hsb))
   ·have f4':tG X pins (upd H' kS (.lst [])) a:=fa'.at (by rw[aO nak];exact fa'.1)
    obtain⟨c2,hc2⟩:∃c2,((s'.heap.update kS (Obj.mapSeq fun _=>(#[]:Array Value))).update a (Obj.mapSeq fun _=>(arrOf st).map (·.2))).get? a=some (seqObj "list" ((arrOf st).map (·.2)) c2):=⟨_,get?_update_seq ho4 fun _=>(arrOf st).map (·.2)⟩
    have hin:∀i∈is,i<xs.length:=fun i hi=>by
     have:=hsb.1.mem_iff.mp hi
     rw[List.mem_range]at this
     omega
    refine I4.adopt (t':=s'.toks) f4' (fun b u hb e=>(Heap.get?_update_other _ _ (Ne.symm hb)).trans e) ⟨_,hc2⟩ ⟨?_,is.map (fun i=>vs.getD i .none),c2,N6 rv is hin,?_⟩
    ·rw[List.length_map,hsb.1.length_eq,List.length_range]
     omega
    ·rw[hc2]
     have:(arrOf st).map (·.2)=(is.map fun i=>vs.getD i .none).toArray:=by rw[← hout,Array.toArray_toList]
     rw[this]
   ·intro b o e
    have nb:b≠kS:=fun z=>by
     have q0:H0 kS=none:=by
      cases q:H0 kS with
      |none=>rfl
      |some o=>rw[sm _ _ q]at hk0;cases hk0
     rw[z,q0]at e;cases e
    rw[aO nb]
    exact sm' _ _ e
  unfold ksk_end
  (try dsimp only)
  simp only[Bool.false_eq_true,if_false]
  by_cases h2:vs.toArray.size<2
  ·rw[if_pos h2,if_pos h2]
   refine wpAny_bind (wpAny_pure ?_)
   rw[StateT.run_pure]
   refine wpAny_bind (wpAny_pure ?_)
   (try dsimp only)
   refine tail (SortSt.mk' general' (ks.toArray.zip vs.toArray) #[] 7 none) (Array.Perm.refl _) ?_ rfl
   intro i j hij hj
   rw[List.size_toArray]at h2
   have:i=j:=by omega
   subst this
   exact KeyOrd.kle_refl _
  ·rw[if_neg h2,if_neg h2]
   rw[List.size_toArray]at h2
   refine wpAny_bind (D.kind _ _ (by omega) ?_)
   have hks:KeysOf D.κ (ks.toArray.zip vs.toArray):=fun p hp=>by
    rw[ksk_zip]at hp
    have hp:p∈ks.zip vs:=by simpa using hp
    obtain⟨m,hm,em⟩:=List.getElem_of_mem (List.of_mem_zip hp).1
    exact⟨_,D.key m hm p.1 (by rw[List.getElem?_eq_getElem hm,em])⟩
   have hzs:(ks.toArray.zip vs.toArray).size=vs.length:=by rw[Array.size_zip,List.size_toArray,List.size_toArray,hkl,Nat.min_self]
   refine wpAny_bind (wpAny_mono (PyProof.Rows.G.wpS_sortRunsSt (κ:=D.κ) (kd:=D.kd) (a₀:=ks.toArray.zip vs.toArray) (st:=SortSt.mk' D.kd (ks.toArray.zip vs.toArray) #[] 7 none)
    (Q:=fun _ st'=>(arrOf st').Perm (ks.toArray.zip vs.toArray)∧failedOf st'=none∧SortedToK D.κ (arrOf st') (ks.toArray.zip vs.toArray).size)
    D.at_ hks ⟨Array.Perm.refl _,rfl,rfl⟩ rfl (Stable.refl _) (by rw[hzs];omega) fun st' a1 a2 a3 a4=>⟨a1,a2,a3⟩) ?_ fun _ _ e=>e)
   rintro⟨⟨⟩,st'⟩ s2 ⟨rfl,hp,hf,hs⟩
   (try dsimp only)
   rw[hzs]at hs
   exact tail st' hp hs hf
end
end L2
end
section
set_option Elab.async false
set_option linter.all false
set_option maxRecDepth 100000
set_option maxHeartbeats 400000
namespace L2
open PySem PySem.Spec PyProof.Rows
def T7(te:TE)(k:Nat)(d:Gf)(cl:List (Str×Addr)):St→V→V→Hp→VK→Prop:=fun σ v qv H2 Q=>∃l xs q tup kf,v=.ref l∧H2 l=some (.lst xs)∧qv=.ref q∧Hv H2 d cl q∧Qa te k tup kf xs σ H2∧(tup=true→∀m,kf m≠[]) ∧
 ∀is D H',Ea kf xs.length is→aY H2 H'→H2 D=none→H' D=some (.lst (is.map fun i=>xs.getD i .non))→Q (.ref D) H'
section
variable {X:Cx}{d:Gf}{p:Str}{k:Nat}{te:TE}
theorem Wa(hc:X.calm=true)(hN:X.N.Nodup)(hd:X.A.in1.depth<recursionLimit)(L:W2 X d p k)(he:∀(s:Shared) (H:Hp) (L q c':Addr) (cl:List (Str×Addr)),PE (X.in1.lam s H (PySem.W.envX d.qual d.scope L q (.ref c') cl)) d.body te) :
  ∀pins s σ H v u qv qu Q,Inv X pins σ H s→RelV v u→RelV qv qu→T7 te k d (bx X.env.cells d.scope.names []) σ v qv H Q→wpAny (model X.prog X.w) X.A (call (.builtin "sorted") [u] [(Str.ofString "key",qu)]) (EP X pins σ Q) X.xe s:=by
 rintro pins s σ H v u qv qu Q I rv rq ⟨l,xs,q,tup,kf,rfl,hl,rfl,il,kb,hne,h⟩
 cases (show u=Value.ref l from rv)
 cases (show qu=Value.ref q from rq)
 obtain⟨vs,lrv,lp,hz⟩:=I.list (SqL.of (K:=X.K) hl)
 have hlv:=lrv.length
 refine call_function_entry_kw kind_sorted plain_sorted entry_sorted (ksk_s1 _ _) ?_
 unfold Builtin.«sorted»
 refine wpAny_bind (m:=checkCount "sorted" 1 1 _) (wpAny_pure ?_)
 refine wpAny_bind (collect_list lp.isList ?_ (by omega))
 refine wpAny_bind (wpAny_newList ?_ (by omega))
 have hsz:((s.heap.push (seqObj "list" #[] 0)).update s.heap.objs.size (Obj.mapSeq (·++vs.toArray))).objs.size=s.heap.objs.size+1:=by
  rw[Heap.size_update,size_push']
 have hoL:(((s.heap.push (seqObj "list" #[] 0)).update s.heap.objs.size (Obj.mapSeq (·++vs.toArray))).push (seqObj "list" vs.toArray 0)).get? (s.heap.objs.size+1)=some (seqObj "list" vs.toArray 0):=by
  rw[← hsz];exact Heap.get?_push_size _ rfl
 have keep:∀b o,s.heap.get? b=some o→(((s.heap.push (seqObj "list" #[] 0)).update s.heap.objs.size (Obj.mapSeq (·++vs.toArray))).push (seqObj "list" vs.toArray 0)).get? b=some o:=fun b o q=>by
  have hlt:b<s.heap.objs.size:=Heap.lt_size q
  rw[Heap.get?_push_ne _ _ _ (by rw[hsz];exact Nat.ne_of_lt (Nat.lt_succ_of_lt hlt)),Heap.get?_update_ne _ _ _ _ (Nat.ne_of_lt hlt),Heap.get?_push_ne _ _ _ (Nat.ne_of_lt hlt)]
  exact q
 show wpAny _ _ _ _ _ {s with heap:=((s.heap.push (seqObj "list" #[] 0)).update s.heap.objs.size (Obj.mapSeq (·++vs.toArray))).push (seqObj "list" vs.toArray 0)}
 rw[hsz]
 have I1:Inv X pins σ H {s with heap:=((s.heap.push (seqObj "list" #[] 0)).update s.heap.objs.size (Obj.mapSeq (·++vs.toArray))).push (seqObj "list" vs.toArray 0)}:=I.kept (t':=s.toks) keep
 have hDn:H (s.heap.objs.size+1)=none:=I.hok.fresh (Nat.le_succ _)
 have fD:tG X pins H (s.heap.objs.size+1):=I.Yo (Nat.le_succ _) hDn
 have turn:Ax X.in1 σ q tup kf xs H:=Pq (X:=X.in1) hc hN ⟨L.ok,L.loc,L.cell,L.co,L.gen,L.bind⟩ hd he il kb
 refine wpAny_bind (wpAny_holding (wpAny_call_entry_kw slot_list_sort ⟨_,hoL,rfl⟩ entry_list_sort ?body (ksk_l1 _ _)))
 case body =>
  show wpAny (model X.prog X.w) X.in1.A.in1 (Builtin.«list.sort» ⟨[.ref (s.heap.objs.size+1)],[(Str.ofString "key",.ref q)]⟩) _ _ _
  rw[ksk_t1]
  refine YH (X:=X.in1) (pins:=pins) turn hne I1.in1 (aY.refl _) fD hoL lrv hz fun s' H' is J sm hn hs=>⟨_,rfl,?_⟩
  have J':=Inv.ad7 I.ok J
  refine wpAny_pure ⟨_,rfl,.ref (s.heap.objs.size+1),_,J',rfl,h is _ _ hs ?_ hDn aX⟩
  intro b o e
  rw[aO (bj e hDn)]
  exact sm _ _ e
end
end L2
end
section
set_option Elab.async false
set_option linter.all false
set_option maxRecDepth 100000
set_option maxHeartbeats 400000
namespace L2
open PySem PySem.Spec PyProof.Rows
structure G5(X:Cx)(P:Addr)(qual:Str):Prop where
 code:∃c,X.env.code=.ref c∧∀h,X.K.In h→PySem.W.CodeHd h c P
 bm:∃bm o,X.mg "__builtins__" = some (.ref bm)∧bm≠builtinsNs∧bm≠mainGlobals∧X.base.get? bm=some o∧o.cls=.type "module"∧o.dict=some builtinsNs∧o.data=.plain
 qual:X.env.qual++"<lambda>" = qual
section
variable {X:Cx}{P:Addr}{qual:Str}{params:Arguments}{body:Expr}{scope:Scope}{lpos pn pos kp kp2:Pos}{e dE:Expr}{p:Str}{k:Nat}{tl te:TE}
theorem PL{own:List (Str×Nat)}(L:G5 X P qual)(ok:wZ X.N X.env.scope scope own)(hdef:defaultsOf params X.env=([],[])):PE X (.Lambda params body scope lpos) (VR P ⟨qual,params,body,scope⟩ (bx X.env.cells scope.names [])) :=
 let ⟨_,h1,h2⟩:=L.code
 ac2 ok h1 h2 L.bm L.qual hdef
theorem abo(p:Str)(k:Nat)(hc:X.calm=true)(hN:X.N.Nodup)(hr:X.A.depth<recursionLimit∧X.A.in1.units<cLine)(L:G5 X P qual)(hg:Gl X "min")(hm:X.mg "min" = none)(hbm:bootBuiltins "min" = some (.builtin "min"))(hl:PE X e tl)
  (ok:wZ X.N X.env.scope scope [(p,k)]) (he:∀(s:Shared) (H:Hp) (L q c':Addr) (cl:List (Str×Addr)),PE (X.lam s H (PySem.W.envX qual scope L q (.ref c') cl)) body te)
  (hdef:defaultsOf params X.env=([],[]):=by rfl) (hloc:scope.names.lookup p=some .local:=by rfl) (hcell:∀y∈scope.names,y.2≠.cell:=by decide +kernel) (hco:scope.isCoroutine=false:=by rfl) (hgen:scope.isGenerator=false:=by rfl)
  (hbind:∀(pm cdv ct:Value) (cl:List (Str×Addr)) (v:Value),bindArgs (PySem.W.kla_fn "<lambda>" qual params body scope cl pm cdv ct) ⟨[v],[]⟩=pure [(p,v)]:=by intros;rfl) (hs:starEach [e] X.env=(false,eval e X.env)::starEach [] X.env:=by rfl) :
  PE X (.Call (.Name "min" pn) [e] [⟨some "key",.Lambda params body scope lpos,kp⟩] pos) (tKw tl (VR P ⟨qual,params,body,scope⟩ (bx X.env.cells scope.names [])) (Tn te k ⟨qual,params,body,scope⟩ (bx X.env.cells scope.names []) false)) :=
 aaf hg hm hbm hl (PL L ok hdef) (XR (d:=⟨qual,params,body,scope⟩) hc hN hr.1 hr.2 ⟨ok,hloc,hcell,hco,hgen,hbind⟩ he) (hs:=hs)
theorem aal(p:Str)(k:Nat)(hc:X.calm=true)(hN:X.N.Nodup)(hr:X.A.depth<recursionLimit∧X.A.in1.units<cLine)(L:G5 X P qual)(hg:Gl X "min")(hm:X.mg "min" = none)(hbm:bootBuiltins "min" = some (.builtin "min"))(hl:PE X e tl)(hdE:PE X dE (tC .non))
  (ok:wZ X.N X.env.scope scope [(p,k)]) (he:∀(s:Shared) (H:Hp) (L q c':Addr) (cl:List (Str×Addr)),PE (X.lam s H (PySem.W.envX qual scope L q (.ref c') cl)) body te)
  (hdef:defaultsOf params X.env=([],[]):=by rfl) (hloc:scope.names.lookup p=some .local:=by rfl) (hcell:∀y∈scope.names,y.2≠.cell:=by decide +kernel) (hco:scope.isCoroutine=false:=by rfl) (hgen:scope.isGenerator=false:=by rfl)
  (hbind:∀(pm cdv ct:Value) (cl:List (Str×Addr)) (v:Value),bindArgs (PySem.W.kla_fn "<lambda>" qual params body scope cl pm cdv ct) ⟨[v],[]⟩=pure [(p,v)]:=by intros;rfl) (hs:starEach [e] X.env=(false,eval e X.env)::starEach [] X.env:=by rfl) :
  PE X (.Call (.Name "min" pn) [e] [⟨some "key",.Lambda params body scope lpos,kp⟩,⟨some "default",dE,kp2⟩] pos) (tKw tl (VR P ⟨qual,params,body,scope⟩ (bx X.env.cells scope.names [])) (Tn te k ⟨qual,params,body,scope⟩ (bx X.env.cells scope.names []) true)) :=
 adh hg hm hbm hl (PL L ok hdef) hdE (VG (d:=⟨qual,params,body,scope⟩) hc hN hr.1 hr.2 ⟨ok,hloc,hcell,hco,hgen,hbind⟩ he) (hs:=hs)
theorem RM(p:Str)(k:Nat)(hc:X.calm=true)(hN:X.N.Nodup)(hr:X.A.in1.depth<recursionLimit)(L:G5 X P qual)(hg:Gl X "sorted")(hm:X.mg "sorted" = none)(hbm:bootBuiltins "sorted" = some (.builtin "sorted"))(hl:PE X e tl)
  (ok:wZ X.N X.env.scope scope [(p,k)]) (he:∀(s:Shared) (H:Hp) (L q c':Addr) (cl:List (Str×Addr)),PE (X.in1.lam s H (PySem.W.envX qual scope L q (.ref c') cl)) body te)
  (hdef:defaultsOf params X.env=([],[]):=by rfl) (hloc:scope.names.lookup p=some .local:=by rfl) (hcell:∀y∈scope.names,y.2≠.cell:=by decide +kernel) (hco:scope.isCoroutine=false:=by rfl) (hgen:scope.isGenerator=false:=by rfl)
  (hbind:∀(pm cdv ct:Value) (cl:List (Str×Addr)) (v:Value),bindArgs (PySem.W.kla_fn "<lambda>" qual params body scope cl pm cdv ct) ⟨[v],[]⟩=pure [(p,v)]:=by intros;rfl) (hs:starEach [e] X.env=(false,eval e X.env)::starEach [] X.env:=by rfl) :
  PE X (.Call (.Name "sorted" pn) [e] [⟨some "key",.Lambda params body scope lpos,kp⟩] pos) (tKw tl (VR P ⟨qual,params,body,scope⟩ (bx X.env.cells scope.names [])) (T7 te k ⟨qual,params,body,scope⟩ (bx X.env.cells scope.names []))) :=
 aaf hg hm hbm hl (PL L ok hdef) (Wa (d:=⟨qual,params,body,scope⟩) hc hN hr ⟨ok,hloc,hcell,hco,hgen,hbind⟩ he) (hs:=hs)
end
def Gr(P:Addr)(qual:Str)(H H':Hp):Prop:=(∀b o,H b=some o→b≠P→H' b=some o)∧acr H H' P qual
theorem Gr.same{P:Addr}{qual:Str}{H H1 H2:Hp}(g:Gr P qual H H1)(s:aY H1 H2):Gr P qual H H2:=⟨fun b o e n=>s _ _ (g.1 b o e n),fun ps e t=>let ⟨ps',a,b,c⟩:=g.2 ps e t;⟨ps',s _ _ a,b,fun pos cv z=>(c pos cv z).imp id fun⟨d,h1,h2,h3⟩=>⟨d,h1,h2,s _ _ h3⟩⟩⟩
theorem Gr.pre{P:Addr}{qual:Str}{H H1 H2:Hp}(s:aY H H1)(g:Gr P qual H1 H2):Gr P qual H H2:=⟨fun b o e n=>g.1 b o (s _ _ e) n,fun ps e t=>let ⟨ps',a,b,c⟩:=g.2 ps (s _ _ e) t;⟨ps',a,b,fun pos cv z=>(c pos cv z).imp id fun⟨d,h1,h2,h3⟩=>⟨d,h1,s.free h2,h3⟩⟩⟩
theorem Xl.up{P:Addr}{qual:Str}{H H':Hp}(h:Xl H P qual)(s:aY H H'):Xl H' P qual:=let ⟨ps,e,t,k⟩:=h;⟨ps,s _ _ e,t,fun pos cv z=>let ⟨c,e1,e2⟩:=k pos cv z;⟨c,e1,s _ _ e2⟩⟩
section
variable {P:Addr}{d:Gf}{cl:List (Str×Addr)}{tl te:TE}{k:Nat}{σ:St}{H:Hp}{xs:List V}{Q:VK}{tup:Bool}{kf:Nat→List Int}{dflt:Bool}
def But(P:Addr)(H:Hp):Hp:=fun b=>if b=P then none else H b
theorem aa7{H H':Hp}(h:∀b o,H b=some o→b≠P→H' b=some o):aY (But P H) H':=fun b o e=>by
 unfold But at e
 by_cases z:b=P
 ·rw[if_pos z]at e;cases e
 ·rw[if_neg z]at e;exact h b o e z
theorem yd{b:Addr}{o:HO}(e:H b=some o)(n:b≠P):But P H b=some o:=by unfold But;rw[if_neg n];exact e
theorem Wx{H H1 H2:Hp}(s1:aY H H1)(keep:∀b o,H1 b=some o→b≠P→H2 b=some o)(hk:∀i x,xs[i]?=some x→EvP te ((wipe σ [k]).set k (some x)) (But P H) (fun y H4=>pR tup y H4 (kf i))):Qa te k tup kf xs σ H2:=fun i x hx H3 s3 =>
 hk i x hx H3 ((aa7 fun b o e n=>keep b o (s1 _ _ e) n).trans s3) _ fun y H4 s4 ka=>⟨s4,ka⟩
theorem aaH(hl:EvL tl σ H xs)(ht:Xl H P d.qual)(hk:∀i x,xs[i]?=some x→EvP te ((wipe σ [k]).set k (some x)) (But P H) (fun y H4=>pR tup y H4 (kf i)))
  (h0:xs=[]→dflt=true∧∀H',Gr P d.qual H H'→Q .non H') (h1:∀i x H',xs[i]?=some x→(∀j',j'<xs.length→HT.lexLt (kf j') (kf i)=false)→Gr P d.qual H H'→Q x H'):tKw tl (VR P d cl) (Tn te k d cl dflt) σ H Q :=
 hl H (aY.refl _) _ fun v H1 s1 ⟨l,e,hl1⟩=>⟨ht.up s1,fun q H2 keep hq tg il=>by
  obtain⟨ps,hps,_⟩:=ht.up s1
  have g:Gr P d.qual H H2:=Gr.pre s1 ⟨keep,tg⟩
  exact⟨l,xs,q,tup,kf,e,keep _ _ hl1 (cB hl1 hps (by intro z;cases z)),rfl,il,Wx s1 keep hk,fun z=>⟨(h0 z).1,fun H' s'=>(h0 z).2 H' (g.same s')⟩,fun i x H' hx hm s'=>h1 i x H' hx hm (g.same s')⟩⟩
theorem Wf(hl:EvL tl σ H xs)(ht:Xl H P d.qual)(hk:∀i x,xs[i]?=some x→EvP te ((wipe σ [k]).set k (some x)) (But P H) (fun y H4=>pR tup y H4 (kf i)))(hne:tup=true→∀m,kf m≠[])
  (h1:∀is D H',Ea kf xs.length is→Gr P d.qual H H'→H D=none→H' D=some (.lst (is.map fun i=>xs.getD i .non))→Q (.ref D) H'):tKw tl (VR P d cl) (T7 te k d cl) σ H Q :=
 hl H (aY.refl _) _ fun v H1 s1 ⟨l,e,hl1⟩=>⟨ht.up s1,fun q H2 keep hq tg il=>by
  obtain⟨ps,hps,_⟩:=ht.up s1
  have g:Gr P d.qual H H2:=Gr.pre s1 ⟨keep,tg⟩
  refine⟨l,xs,q,tup,kf,e,keep _ _ hl1 (cB hl1 hps (by intro z;cases z)),rfl,il,Wx s1 keep hk,hne,fun is D H' hs s' hD hD'=>h1 is D H' hs (g.same s') ?_ hD'⟩
  cases z:H D with
  |none=>rfl
  |some o =>
   by_cases n:D=P
   ·obtain⟨ps',hp',_⟩:=tg ps hps (by obtain⟨ps2,hp2,t2,_⟩:=ht.up s1;rw[hps]at hp2;cases hp2;exact t2)
    rw[n,hp']at hD;cases hD
   ·rw[keep D o (s1 _ _ z) n]at hD;cases hD⟩
end
section
variable {P:Program}{w:World}{K:PySem.W.Frag}{mg:Str→Option Value}{base:Heap}
theorem Fun.okC{x qual:Str}{st:Stmt}{f:Addr}{fd:FuncData}{N ps:List Str}{k:Nat}{sp:Sp}(F:Fun K x qual st f fd)(S:aG N ps (aA st))(len:∀vs H Q E,sp vs H Q E→vs.length=ps.length)
  (hbody:∀(A:Around) (outer:List Env) (s:Shared) (H:Hp) (vs:List V) (Q:VK) (E:XK),jF k (A.deeper (envOfC qual (aA st) s.heap.objs.size f fd.code))→sp vs H Q E →
   ∃t,PSs (Mp CX0 P w K mg base N qual (aA st) f fd.code A outer s H E).nox (ql st) t∧t {nx:=fun _ H'=>Q .non H',rt:=Q} (start N vs) H):bG P w K mg base CX0 (k+1) f fd ps sp:=by
 obtain⟨oc,od,kV,doc,pm,an,cdv,ct,osl,rfl,lk,hcd⟩:=F.ex
 refine acq lk hcd S len fun A outer s H vs Q E hr hsp=>?_
 obtain⟨t,h,q⟩:=hbody A outer s H vs Q E hr hsp
 exact⟨t,h.nox,q⟩
end
end L2
end
section
set_option Elab.async false
set_option linter.all false
set_option maxRecDepth 100000
set_option maxHeartbeats 1000000
namespace Jq
open PySem PySem.Spec PyProof.Rows L2
def yU(K:PySem.W.Frag)(mg:Str→Option Value):Prop:=∃(a:Addr) (vs:List (Key×Value)),mg "SHAPES" = some (.ref a)∧(∀(P:Program) (w:World) (h:Heap),K.In h→h.DictOf (e_ P w) a vs)∧∀(p:Int) (n k:Nat),PyVbbhaj.shape p=some (n,k)→∃t,valueAt vs (Sum.inl p:Key)=some (.ref t)∧∀H:Hp,SqT K H t [.int n,.int k]
structure MT{K:PySem.W.Frag}{mg:Str→Option Value}(T:Txt K mg)(base:Heap):Prop where
 ne:T.mR≠T.mH
 c1:∃c,T.dY.fd.code=.ref c∧∀h,K.In h→PySem.W.CodeHd h c T.mR
 c2:∃c,T.fJ.fd.code=.ref c∧∀h,K.In h→PySem.W.CodeHd h c T.mH
 bm:∃bm o,mg "__builtins__" = some (.ref bm)∧bm≠builtinsNs∧bm≠mainGlobals∧base.get? bm=some o∧o.cls=.type "module"∧o.dict=some builtinsNs∧o.data=.plain
 sh:yU K mg
theorem Zn{X:Cx}{K:PySem.W.Frag}{o e:Expr}{to:TE}{t:TA}{apos cpos:Pos}(ho:PE X o to)(ha:PA X [e] t)(hK:X.K=K:=by rfl)(hbase:attributeBase o "index" X.env (eval o X.env)=eval o X.env:=by rfl)
  (hfew:((backTo cpos (starEach [e] X.env)).all (fun x=>!x.1)&&(backToKw cpos (keywordEach [] X.env)).all (fun x=>x.1.isSome)
   && decide ([e].length+([]:List Keyword).length+(if ([]:List Keyword).isEmpty then 0 else 1)<30))=true:=by rfl)
  (hline:(apos.endLine==cpos.line)=true:=by rfl) (hs:starEach [e] X.env=(false,eval e X.env)::starEach [] X.env:=by rfl) (hplain:(backTo cpos (starEach [] X.env)).any (·.1)=false:=by rfl) :
  PE X (.Call (.Attribute o "index" apos) [e] [] cpos) (tBM K "list" (Ub K) to t):=by
 subst hK
 exact M_ PySem.F.plainAttrs_list PySem.F.slot_list_index PySem.F.type_list_index aaY ho ha hbase hfew hline hs hplain
section
variable {P:Program}{w:World}{K:PySem.W.Frag}{mg:Str→Option Value}{base:Heap}
variable {σ:St}{H:Hp}{ta tb tc td:TE}{a:Addr}{j:Vbbhaj.Job}{A:Ad}{s:Vbbhaj.State}{T:Txt K mg}{X:Addr→Prop}{D:Ends}
theorem cT.but{p:Addr}{ps:Array Value}(h:cT T H a j)(hp:H p=some (.tbl ps)):cT T (But p H) a j:=by
 obtain⟨dx,na,ta,e,n,t⟩:=h
 have nn:∀{b:Addr} {o:HO},H b=some o→o≠.tbl ps→But p H b=some o:=fun e ne=>yd e (cB e hp ne)
 exact⟨dx,na,ta,nn e (by intro z;cases z),nn n (by intro z;cases z),t.up' (fun b xs e=>nn e (by intro z;cases z)) fun b xs e=>nn e (by intro z;cases z)⟩
theorem Nk{p p2:Addr}{qual q2:Str}{G G':Hp}(h:TabAt G p2 q2)(hn:p2≠p)(hp:∃ps,G p=some (.tbl ps))(k:∀b o,G b=some o→b≠p→G' b=some o):TabAt G' p2 q2:=by
 obtain⟨ps,e,t,c⟩:=h
 obtain⟨ps0,e0⟩:=hp
 exact⟨ps,k _ _ e hn,t,fun pos cv z=>let ⟨d,e1,e2⟩:=c pos cv z;⟨d,e1,k _ _ e2 (cB e2 e0 (by intro z;cases z))⟩⟩
theorem Nb{p:Addr}{qual:Str}{X:Addr→Prop}{H H':Hp}(hX:∀b,X b→H b≠none)(h:TabAt (hid X H) p qual)(g:Gr p qual H H'):TabAt (hid X H') p qual:=by
 obtain⟨ps,e,t,c⟩:=h
 obtain⟨np,e'⟩:=bM e
 obtain⟨ps',e1,t1,c1⟩:=g.2 ps e' t
 refine⟨ps',by rw[cu np];exact e1,t1,fun pos cv z=>?_⟩
 rcases c1 pos cv z with z|⟨d,h1,h2,h3⟩
 ·obtain⟨d,h1,h2⟩:=c pos cv z
  obtain⟨nd,h2'⟩:=bM h2
  exact⟨d,h1,by rw[cu nd];exact g.1 _ _ h2' (cB h2' e' (by intro z;cases z))⟩
 ·exact⟨d,h1,by rw[cu fun q=>hX d q h2];exact h3⟩
theorem Rep.but{G G':Hp}{p:Addr}(h:Rep T G A s)(hp:∃ps,G p=some (.tbl ps))(k:∀b o,G b=some o→b≠p→G' b=some o)(ht:Kg T G'):Rep T G' A s:=by
 obtain⟨ps,hp⟩:=hp
 have nn:∀{b:Addr} {o:HO},G b=some o→o≠.tbl ps→G' b=some o:=fun e ne=>k _ _ e (cB e hp ne)
 refine⟨?_,nn h.jobs (by intro z;cases z),nn h.lim (by intro z;cases z),nn h.clo (by intro z;cases z),nn h.ini (by intro z;cases z),h.js,h.is,fun q hq=>?_,fun q hq=>?_,h.ndj,h.ndi,h.dd,h.srt,h.few,ht⟩
 ·obtain⟨dx,e⟩:=h.brd
  exact⟨dx,nn e (by intro z;cases z)⟩
 ·obtain⟨dx,na,ta,e,n,t⟩:=h.job q hq
  exact⟨dx,na,ta,nn e (by intro z;cases z),nn n (by intro z;cases z),t.up' (fun b xs e=>nn e (by intro z;cases z)) fun b xs e=>nn e (by intro z;cases z)⟩
 ·obtain⟨dx,ca,e,n⟩:=h.int q hq
  exact⟨dx,ca,nn e (by intro z;cases z),nn n (by intro z;cases z)⟩
theorem RX.gr{H H':Hp}{p:Addr}{qual:Str}(L:MT T base)(h:RX T X H A s)(g:Gr p qual H H')(hp:(p=T.mR∧qual = "chosen_job.<locals>.<lambda>")∨(p=T.mH∧qual = "tell_order.<locals>.<lambda>")):RX T X H' A s:=by
 have kk:∀b o,hid X H b=some o→b≠p→hid X H' b=some o:=fun b o e n=>by
  obtain⟨nb,e'⟩:=bM e
  rw[cu nb]
  exact g.1 _ _ e' n
 obtain⟨t1,t2⟩:=id h.r.tabs
 have hh:∃ps,hid X H p=some (.tbl ps):=by
  rcases hp with ⟨rfl,_⟩|⟨rfl,_⟩
  ·obtain⟨ps,e,_⟩:=t1;exact⟨ps,e⟩
  ·obtain⟨ps,e,_⟩:=t2;exact⟨ps,e⟩
 refine⟨h.r.but hh kk ?_,fun b hb e=>?_⟩
 ·rcases hp with ⟨rfl,rfl⟩ | ⟨rfl,rfl⟩
  ·exact⟨Nb h.x t1 g,Nk (qual:="") t2 L.ne.symm hh kk⟩
  ·exact⟨Nk (qual:="") t1 L.ne hh kk,Nb h.x t2 g⟩
 ·cases q:H b with
  |none=>exact h.x b hb q
  |some o =>
   by_cases n:b=p
   ·obtain⟨ps,e2⟩:=hh
    rw[n]at hb
    exact(bM e2).1 hb
   ·rw[g.1 _ _ q n]at e;cases e
theorem Jp{H H':Hp}{p:Addr}{qual:Str}{ps:Array Value}(g:Gr p qual H H')(hp:H p=some (.tbl ps)):Fix H H':=fun b o e f=>g.1 b o e fun z=>by
 rw[z,hp]at e;cases e;cases f
def Zi(T:Txt K mg):Sp:=fun vs H Q _=>∃X A s a x l,vs=[.ref A.b,.ref a,.ref l]∧RX T X H A s∧Inv s∧nT T H a x∧x.classes.length≤8∧H l=some (.lst (refs (A.L.filter fun q=>Vbbhaj.free s x q.2))) ∧
 ∀v H',Fix H H'→RX T X H' A s→((Vbbhaj.chosen s x=none∧v=.non)∨∃b j,Vbbhaj.chosen s x=some j∧(b,j)∈A.L∧v=.ref b)→Q v H'
theorem We{p b:Addr}{ps:Array Value}{o:HO}(hp:H p=some (.tbl ps))(e:H b=some o)(n:o≠.tbl ps):But p H b=some o:=yd e (cB e hp n)
theorem Wm{u:TA}{xs:List V}(h:Bt u σ H xs)(hl:xs.length≤sizeLine):EvP (adD u) σ H (fun v H'=>∃p,v=.ref p∧H' p=some (.tup xs)):=fun H1 s Q k =>
 h H1 s _ fun us H2 s2 e=>by
  subst e
  exact⟨hl,fun p hp=>k _ _ (s2.trans (ji hp)) ⟨p,rfl,aX⟩⟩
theorem aaB{cs:List Nat}{c:Nat}(ha:EvL ta σ H (cs.map fun n:Nat=>V.int n))(hb:Ev tb σ H (.int c))(hc:c∈cs):Ev (tBM K "list" (Ub K) ta (bw tb eV)) σ H (.int (ix cs c)):=fun H1 s1 Q k =>
 ha H1 s1 _ fun v H2 s2 ⟨l,e,hl⟩=>by
  subst e
  refine⟨.inl ⟨rfl,_,SqL.of hl⟩,hb H2 (s1.trans s2) _ fun y H3 s3 ey=>?_⟩
  subst ey
  have hlt:=adB hc
  have hat:cs[ix cs c]?=some c:=by
   rw[List.getElem?_eq_getElem hlt]
   have:=List.findIdx_getElem (p:=fun x=>x==c) (w:=hlt)
   exact congrArg some (beq_iff_eq.mp this)
  refine⟨l,_,.int c,ix cs c,.int c,rfl,rfl,SqL.of (s3 _ _ hl),rfl,by rw[List.all_map];simp[tY],by rw[List.getElem?_map,hat];rfl,by simp[eqV],fun m z hm hz=>?_,k _ H3 (s2.trans s3) rfl⟩
  rw[List.getElem?_map]at hz
  cases q:cs[m]? with
  |none=>rw[q]at hz;cases hz
  |some c' =>
   rw[q]at hz
   cases hz
   have hml:m<cs.length:=(List.getElem?_eq_some_iff.mp q).1
   have:=List.not_of_lt_findIdx (p:=fun x=>x==c) hm
   have e2:cs[m]=c':=(List.getElem?_eq_some_iff.mp q).2
   rw[e2]at this
   have ne:c'≠c:=by simpa using this
   simp[eqV]
   omega
theorem aek(a1 r1 n1 a2 r2 n2:Int):HT.lexLt [a1,-r1,n1] [a2,-r2,n2]=(decide (a1<a2)||(decide (a1=a2)&&(decide (r2<r1)||(decide (r1=r2)&&decide (n1<n2))))):=by
 rw[HT.jz,HT.jz,Ay]
 by_cases h1:a1=a2
 ·rw[if_pos h1]
  by_cases h2:-r1=-r2
  ·rw[if_pos h2]
   have:r1=r2:=by omega
   subst h1 this
   simp
  ·rw[if_neg h2]
   have:r1≠r2:=by omega
   subst h1
   simp[this]
 ·rw[if_neg h1]
  simp[h1]
theorem aem(r1 n1 r2 n2:Int):HT.lexLt [-r1,n1] [-r2,n2]=(decide (r2<r1)||(decide (r1=r2)&&decide (n1<n2))):=by
 rw[HT.jz,Ay]
 by_cases h2:-r1=-r2
 ·rw[if_pos h2]
  have:r1=r2:=by omega
  subst this
  simp
 ·rw[if_neg h2]
  have:r1≠r2:=by omega
  simp[this]
def kOf(f:Vbbhaj.Job→List Int)(L:List (Addr×Vbbhaj.Job))(i:Nat):List Int:=match L[i]? with
 |some p=>f p.2
 |none=>[0]
theorem zj{f:Vbbhaj.Job→List Int}{L:List (Addr×Vbbhaj.Job)}{i:Nat}{p:Addr×Vbbhaj.Job}(h:L[i]?=some p):kOf f L i=f p.2:=by unfold kOf;rw[h]
theorem Al{L:List (Addr×Vbbhaj.Job)}{i:Nat}{v:V}(h:(refs L)[i]?=some v):∃p,L[i]?=some p∧v=.ref p.1:=by
 unfold refs at h
 rw[List.getElem?_map]at h
 cases q:L[i]? with
 |none=>rw[q]at h;cases h
 |some p=>rw[q]at h;exact⟨p,rfl,(Option.some.inj h).symm⟩
theorem qj(L:List (Addr×Vbbhaj.Job)):(refs L).length=L.length:=by unfold refs;rw[List.length_map]
theorem Wi{f:Vbbhaj.Job→List Int}{L:List (Addr×Vbbhaj.Job)}{i:Nat}{p:Addr×Vbbhaj.Job}(h:L[i]?=some p)(hm:∀j',j'<(refs L).length→HT.lexLt (kOf f L j') (kOf f L i)=false):∀q∈L,HT.lexLt (f q.2) (f p.2)=false:=fun q hq=>by
 obtain⟨m,hm',em⟩:=List.getElem_of_mem hq
 have:=hm m (by rw[qj];exact hm')
 rw[zj h,zj (List.getElem?_eq_some_iff.mpr ⟨hm',em⟩)]at this
 exact this
theorem Aq(h:Rep T H A s){j:Vbbhaj.Job}(m:j∈s.jobs):∃b,(b,j)∈A.L:=by
 rw[← h.js]at m
 obtain⟨p,hp,e⟩:=List.mem_map.mp m
 exact⟨p.1,by rw[← e];exact hp⟩
theorem BZ(T:Txt K mg)(L:MT T base):bG P w K mg base CX0 4 T.dY.f T.dY.fd ["board","initiator","free"] (Zi T):=by
 refine Fun.okC T.dY.F jQ (fun vs H Q E ⟨_,_,_,_,_,_,e,_⟩=>by rw[e];rfl) fun Ar outer sh H vs Q E hr hsp=>?_
 have hu:=eF hr
 have hL:G5 (Mp CX0 P w K mg base ["board","initiator","free","due","classes","job"] "chosen_job" (aA iG) T.dY.f T.dY.fd.code Ar outer sh H E).nox T.mR "chosen_job.<locals>.<lambda>":=⟨L.c1,L.bm,by rfl⟩
 refine⟨_,(ak (xH (i:=3) (own:=[("job",5)]) rfl jQ.nd rfl rfl (Bj rfl rfl rfl (by decide +kernel)) (cY (pv 2)) (cH (by show qF ["board","initiator","free","due","classes","job"] (aA iG) _ _=true;decide +kernel)) (fun _ _ _ _ _=>(bL (i:=5) jQ.nd rfl (Or.inl rfl))) (fun _ _ _ _ _=>(jD (bJ (aK T.lN (uB T) (by exact hr.mono (by decide)) rfl (aj (pv 5) aq))))) (fun _ _ _ _ _=>(pv 5)))
   (ak (a_ (aR aaD (bR bC rfl T.iT gh (aj (pv 3) aq)) aH (aQ _)) (az (aC (abo "job" 5 rfl jQ.nd ⟨hr.depth,hr.in1.Z1⟩ hL rfl T.SQ V9 (pv 3) (cH (by show qF ["board","initiator","free","due","classes","job"] (aA iG) _ _=true;decide +kernel)) (fun _ _ _ _ _ _=>(aD (K:=K) (pv 5) rfl))))) aL)
   (ak (bu (i:=4) jQ.nd rfl (Or.inr rfl) (aD (K:=K) (pv 1) rfl))
   (az (aC (aal "job" 5 rfl jQ.nd ⟨hr.depth,hr.in1.Z1⟩ hL rfl T.SQ V9 (pv 2) Vg (cH (by show qF ["board","initiator","free","due","classes","job"] (aA iG) _ _=true;decide +kernel)) (fun _ _ _ _ _ _=>(U9 (aj (Zn (K:=K) (pv 4) (aj (aD (K:=K) (pv 5) rfl) aq)) (aj (acs ZX (aK T.ph (CG T) (by exact(hr.in1.deeper _).mono (by decide)) rfl (aj (pv 5) (aj (aD (K:=K) (pv 0) rfl) aq)))) (aj (aD (K:=K) (pv 5) rfl) aq))))))))))),?_⟩
 obtain⟨X,A,s,a,x,l,rfl,hx,iv,hi,few,hl,kk⟩:=hsp
 have h:=hx.rep
 refine aN (uY (jZ (K:=K) (k:=5) (ys:=A.L.filter fun q=>Vbbhaj.free s x q.2) (fun p=>V.ref p.1) (fun p=>decide (p.2.due≠0)) (fun p=>V.ref p.1) ((aa rfl).toL hl) (eZ (h.Js _)) (fun y hy=>fu (nW (aa rfl) (h.v9 _ y hy))) (fun y hy _=>aa rfl)) ?_)
 rintro v H1 s1 ⟨l1,rfl,hl1⟩
 (try dsimp only)
 have hl1:H1 l1=some (.lst (refs ((A.L.filter fun q=>Vbbhaj.free s x q.2).filter fun p=>decide (p.2.due≠0)))):=hl1
 generalize hDl:((A.L.filter fun q=>Vbbhaj.free s x q.2).filter fun p=>decide (p.2.due≠0))=Dl at hl1
 have memD:∀p∈Dl,p∈A.L∧Vbbhaj.free s x p.2=true∧p.2.due≠0:=fun p hp=>by
  rw[← hDl]at hp
  obtain⟨h1,h2⟩:=List.mem_filter.mp hp
  obtain⟨h1,h3⟩:=List.mem_filter.mp h1
  exact⟨h1,h3,by simpa using h2⟩
 have inD:∀p∈A.L,Vbbhaj.free s x p.2=true→p.2.due≠0→p∈Dl:=fun p h1 h2 h3=>by
  rw[← hDl]
  exact List.mem_filter.mpr ⟨List.mem_filter.mpr ⟨h1,h2⟩,by simpa using h3⟩
 refine cU (b:=decide (0<Dl.length)) (aP ((eY (lY (n:=Dl.length) ((aa rfl).toL hl1) (qj _)) aJ).cast (by congr 1;rw[Bool.eq_iff_iff];simp))) (fun q H2 s2=>?_) fun q H2 s2=>?_
 ·have q:0<Dl.length:=of_decide_eq_true q
  have hx2:=hx.up (s1.trans s2)
  have h2:=hx2.rep
  obtain⟨ps,hP,hT⟩:=id h2.tabs.1
  show tKw _ _ _ _ _ _
  refine aaH (xs:=refs Dl) (tup:=false) (kf:=kOf (fun j=>[(j.due:Int)]) Dl) ((aa rfl).toL (s2 _ _ hl1)) ⟨ps,hP,hT⟩ (fun i v hv=>?_) (fun z=>absurd (congrArg List.length z) (by rw[qj,List.length_nil];omega)) (fun i v H3 hv hm g=>?_)
  ·obtain⟨p,hp,rfl⟩:=Al hv
   have jb:=(h2.job p (memD p (List.mem_of_getElem? hp)).1).but hP
   rw[zj hp]
   exact(nM (aa rfl) jb).imp fun y H4 _ e=>⟨_,rfl,e⟩
  ·obtain⟨p,hp,rfl⟩:=Al hv
   obtain⟨m1,m2,m3⟩:=memD p (List.mem_of_getElem? hp)
   refine kk _ H3 ((s1.trans s2).fix.trans (Jp g hP)) (hx2.gr L g (.inl ⟨rfl,rfl⟩)) (.inr ⟨p.1,p.2,?_,m1,rfl⟩)
   refine Uk iv.g (wO h m1) m2 m3 fun k hk hf hd=>?_
   obtain⟨b,hb⟩:=Aq h hk
   have:=Wi hp hm (b,k) (inD _ hb hf hd)
   rw[Ay,decide_eq_false_iff_not]at this
   have this:¬(k.due:Int)<(p.2.due:Int):=this
   omega
 have q:Dl.length=0:=by have:=of_decide_eq_false q;omega
 have noD:∀k∈s.jobs,Vbbhaj.free s x k=true→k.due=0:=fun k hk hf=>by
  by_cases hd:k.due=0
  ·exact hd
  ·obtain⟨b,hb⟩:=Aq h hk
   have:=List.length_pos_of_mem (inD _ hb hf hd)
   omega
 have sx:=s1.trans s2
 show m6 _ _ _ _ _
 refine aN (uY (ym (aa rfl) (hi.up sx)) ?_)
 rintro v H3 s3 ⟨lc,rfl,hlc⟩
 (try dsimp only)
 have hx3:=hx.up (sx.trans s3)
 have h3:=hx3.rep
 obtain⟨ps,hP,hT⟩:=id h3.tabs.1
 have hl3:=s3 _ _ (sx _ _ hl)
 generalize hF:(A.L.filter fun q=>Vbbhaj.free s x q.2)=F at hl3
 have memF:∀p∈F,p∈A.L∧Vbbhaj.free s x p.2=true:=fun p hp=>by
  rw[← hF]at hp
  exact List.mem_filter.mp hp
 have inF:∀p∈A.L,Vbbhaj.free s x p.2=true→p∈F:=fun p h1 h2=>by
  rw[← hF]
  exact List.mem_filter.mpr ⟨h1,h2⟩
 show tKw _ _ _ _ _ _
 refine aaH (xs:=refs F) (tup:=true) (kf:=kOf (fun j=>[((ix x.classes j.cls:Nat):Int),-((Vbbhaj.rank s j:Nat):Int),(j.num:Int)]) F) ((aa rfl).toL hl3) ⟨ps,hP,hT⟩ (fun i v hv=>?_) (fun z=>⟨rfl,fun H4 g=>?_⟩) (fun i v H4 hv hm g=>?_)
 ·obtain⟨p,hp,rfl⟩:=Al hv
  obtain⟨m1,m2⟩:=memF p (List.mem_of_getElem? hp)
  have jb:=(h3.job p m1).but hP
  obtain⟨dxb,eb⟩:=h3.brd
  have eb':=We hP eb (by intro z;cases z)
  have ec':=We hP hlc (by intro z;cases z)
  have ag:=iv.g.aging
  rw[zj hp]
  refine(Wm (aB (aaB ((aa rfl).toL ec') (nu (aa rfl) jb) (Sv m2)) (aB (Zv ((CT (aa rfl) jb (b_ (aa rfl) eb' T.bN T.uw (BV.l_a _)) ⟨by show(1:Int)≤(s.aging:Int);omega,by show(s.aging:Int)≤1000000;omega⟩).cast (w:=.int ((Vbbhaj.rank s p.2:Nat):Int)) (by rw[← Px];rfl))) (aB (gA (aa rfl) jb) aV))) (by show 3≤sizeLine;decide)).imp fun y H4 _ ⟨t,e1,e2⟩=>⟨t,e1,e2⟩
 ·have hF0:F=[]:=by
   have:=congrArg List.length z
   rw[qj]at this
   exact List.length_eq_zero_iff.mp this
  refine kk _ H4 ((sx.trans s3).fix.trans (Jp g hP)) (hx3.gr L g (.inl ⟨rfl,rfl⟩)) (.inl ⟨RP fun k hk=>?_,rfl⟩)
  cases hf:Vbbhaj.free s x k with
  |false=>rfl
  |true =>
   obtain⟨b,hb⟩:=Aq h hk
   have:=inF _ hb hf
   rw[hF0]at this
   cases this
 ·obtain⟨p,hp,rfl⟩:=Al hv
  obtain⟨m1,m2⟩:=memF p (List.mem_of_getElem? hp)
  refine kk _ H4 ((sx.trans s3).fix.trans (Jp g hP)) (hx3.gr L g (.inl ⟨rfl,rfl⟩)) (.inr ⟨p.1,p.2,?_,m1,rfl⟩)
  refine V3 iv.g (wO h m1) m2 noD fun k hk hf=>?_
  obtain⟨b,hb⟩:=Aq h hk
  have:=Wi hp hm (b,k) (inF _ hb hf)
  rw[aek]at this
  rw[← this]
  unfold kLt Vbbhaj.higher
  rw[Bool.eq_iff_iff]
  simp
  omega
end
end Jq
end
section
set_option Elab.async false
set_option linter.all false
set_option maxRecDepth 100000
set_option maxHeartbeats 1000000
namespace Jq
open PySem PySem.Spec PyProof.Rows L2
section
variable {P:Program}{w:World}{K:PySem.W.Frag}{mg:Str→Option Value}{base:Heap}
variable {σ:St}{H:Hp}{ta tb tc td:TE}{a:Addr}{j:Vbbhaj.Job}{A:Ad}{s:Vbbhaj.State}{T:Txt K mg}{X:Addr→Prop}{D:Ends}
theorem Qv{sp:Sp}{u:TA}{RA:List V→Hp→Prop}{Q:VK}(ha:EvA u σ H RA)(k:∀vs H',aY H H'→RA vs H'→sp vs H' Q E0):fG sp [] E0 u σ H Q:=ha H (aY.refl _) _ fun us H' s e=>by
 show sp (us++[]) H' Q E0
 rw[List.append_nil]
 exact k us H' s e
theorem WN{s:Vbbhaj.State}{n:Int}{y:Vbbhaj.State×Vbbhaj.Ans}(h:mq s n≠0):(if Vbbhaj.isInit n=false then Vbbhaj.no s 1 else if (Vbbhaj.initAt s n).on=false then Vbbhaj.no s 3 else if (Vbbhaj.initAt s n).job≠0 then Vbbhaj.no s 5 else y)=(s,{num:=mq s n}):=by
 unfold mq at h ⊢
 by_cases h1:uc s n=0
 ·rw[if_pos h1]at h ⊢
  obtain⟨q1,q2⟩:=Gg h1
  rw[if_neg (nF q1),if_neg (nF q2)]
  by_cases h2:(Vbbhaj.initAt s n).job≠0
  ·rw[if_pos h2,if_pos h2];rfl
  ·rw[if_neg h2]at h;exact absurd rfl h
 ·rw[if_neg h1]
  exact Tt h1
theorem Rx{s:Vbbhaj.State}{n:Int}(h:mq s n=0):Vbbhaj.isInit n=true∧(Vbbhaj.initAt s n).on=true∧(Vbbhaj.initAt s n).job=0:=by
 unfold mq at h
 by_cases h1:uc s n=0
 ·rw[if_pos h1]at h
  obtain⟨q1,q2⟩:=Gg h1
  refine⟨q1,q2,?_⟩
  by_cases h2:(Vbbhaj.initAt s n).job≠0
  ·rw[if_pos h2]at h;exact absurd h (by decide)
  ·simpa using h2
 ·rw[if_neg h1]at h;exact absurd h h1
theorem Jf{s:Vbbhaj.State}(iv:Inv s){n:Int}(q1:Vbbhaj.isInit n=true)(q2:(Vbbhaj.initAt s n).on=true):(∀c∈(Vbbhaj.initAt s n).classes,Vbbhaj.isClass (c:Int)=true)∧(Vbbhaj.initAt s n).classes.length≤8:=by
 have h:=iv.i.cls _ (jA iv.g q1) q2
 unfold Vbbhaj.areClasses at h
 simp only[Bool.and_eq_true,decide_eq_true_eq,List.length_map]at h
 refine⟨fun c hc=>?_,h.1.2⟩
 exact List.all_eq_true.mp h.2.1 (Int.ofNat c) (List.mem_map_of_mem hc)
theorem abb(T:Txt K mg)(L:MT T base):bG P w K mg base CX0 5 T.G6.f T.G6.fd ["board","number"] (spC T (dI .peek)):=by
 refine T.G6.F.ok Ij (fun vs H Q E ⟨_,_,_,_,_,e,⟨_,e2,_⟩,_⟩=>by rw[e,e2];rfl) fun cdv A outer s H vs Q E hr hsp=>?_
 have hu:=eF hr
 refine⟨_,(ak (bu (i:=2) Ij.nd rfl (Or.inl rfl) (aK T.cX (qm T) (by exact hr.mono (by decide)) rfl (aj (pv 0) (aj (pv 1) aq))))
   (ak (a_ (aR jr (pv 2) (bz T.aW rfl) (aQ _)) (az (aC (bc (aj (pv 2) aq)))) aL)
   (ak (bu (i:=3) Ij.nd rfl (Or.inl rfl) (cM (by exact hu) (aD (K:=K) (pv 0) rfl) (pv 1) (fun _ _=>rfl)))
   (ak (bu (i:=4) Ij.nd rfl (Or.inl rfl) (aK T.dY (BZ T L) (by exact hr.mono (by decide)) rfl (aj (pv 0) (aj (pv 3) (aj (aK T.lA (Ez T) (by exact hr.mono (by decide)) rfl (aj (pv 0) (aj (pv 3) aq))) aq)))))
   (az (aC (Rv (aR aaP (pv 4) Vg (aQ _)) (bc (aj aH aq)) (bc (aj (aD (K:=K) (pv 4) rfl) aq))))))))),?_⟩
 obtain⟨X,A,s,c,rest,rfl,⟨n,rfl,rfl⟩,hx,iv,d⟩:=hsp
 have h:=hx.rep
 refine aN (iw (ug (aa rfl) (aa rfl) h iv) fun H1 s1=>?_)
 (try dsimp only)
 refine cU (aP (fM (aa rfl) aJ)) (fun q H2 s2=>?_) fun q H2 s2=>?_
 ·exact cI (aZ (aa rfl)) fun v H3 s3 l=>d.no hx (WN (by simpa using jl q)) (s1.trans (s2.trans s3)) l
 have q:mq s n=0:=by simpa using q
 obtain⟨q1,q2,q3⟩:=Rx q
 have d:Done T X H A (Vbbhaj.yes s (((Vbbhaj.chosen s (Vbbhaj.initAt s n)).map fun j=>j.num).getD 0)) Q:=by
  have e:Vbbhaj.step s (.peek n)=_:=(if_neg (nF q1)).trans ((if_neg (nF q2)).trans (if_neg (by rw[q3];simp)))
  rw[e]at d
  exact d
 obtain⟨cl1,cl2⟩:=Jf iv q1 q2
 have hx2:=hx.up (s1.trans s2)
 have h2:=hx2.rep
 obtain⟨a,i1,i2,i3⟩:=iW h2 iv.g q1
 show m6 _ _ _ _ _
 refine aN (iw (fH (bU (aa rfl) h2) (aa rfl) h2.ini i2) fun H3 s3=>?_)
 (try dsimp only)
 have hx3:=hx2.up s3
 have h3:=hx3.rep
 have fr:EvL (fG (ro (Wk T)) [] E0 (bw (b8 0) (bw (b8 3) eV))) [some (.ref A.b),some (.int n),some (.int (mq s n)),some (.ref a),none] H3 (refs (A.L.filter fun q=>Vbbhaj.free s (Vbbhaj.initAt s n) q.2)) :=
  nH (G:=Wk T) (aB (aa rfl) (aB (aa rfl) aV)) fun H4 s4=>⟨A,s,a,Vbbhaj.initAt s n,rfl,h3.up s4,iv,i3.up (s3.trans s4),cl1,cl2,rfl⟩
 refine aN ?_
 show fG _ _ _ _ _ _ _
 refine Qv (RA:=fun vs H'=>∃l,vs=[.ref A.b,.ref a,.ref l]∧H' l=some (.lst (refs (A.L.filter fun q=>Vbbhaj.free s (Vbbhaj.initAt s n) q.2)))) (fun H4 s4 Q' k'=>Ev.use ((aa rfl).up s4) fun H5 s5=>Ev.use ((aa rfl).up (s4.trans s5)) fun H6 s6=>EvP.use (fr.up (s4.trans (s5.trans s6))) fun v H7 s7 ⟨l,e,hl⟩=>k' _ H7 (s5.trans (s6.trans s7)) ⟨l,by rw[e],hl⟩) fun vs H4 s4 ⟨l,e,hl⟩=>?_
 subst e
 refine⟨X,A,s,a,Vbbhaj.initAt s n,l,rfl,hx3.up s4,iv,i3.up (s3.trans s4),cl2,hl,fun v H5 f5 r5 hv=>?_⟩
 (try dsimp only)
 have fx:=(s1.trans (s2.trans (s3.trans s4))).fix.trans f5
 rcases hv with ⟨hn,rfl⟩|⟨b,j,hj,m,rfl⟩
 ·rw[hn]at d
  refine cI (U6 (b:=true) (R:=IsL [.int 0]) (aP ((QL (aa rfl) aJ).cast rfl)) (fun _=>aZ aJ) (fun z=>by cases z)) fun v H6 s6 lv=>d.go (r5.up s6) rfl (fx.trans s6.fix) lv
 ·rw[hj]at d
  refine cI (U6 (b:=false) (R:=IsL [.int (j.num:Nat)]) (aP ((QL (aa rfl) aJ).cast (by simp))) (fun z=>by cases z) (fun _=>aZ (gA (aa rfl) (r5.rep.job _ m)))) fun v H6 s6 lv=>d.go (r5.up s6) rfl (fx.trans s6.fix) lv
theorem abz(T:Txt K mg)(L:MT T base):bG P w K mg base CX0 5 T.GC.f T.GC.fd ["board","number"] (spC T (dI .pick)):=by
 refine T.GC.F.ok xZ (fun vs H Q E ⟨_,_,_,_,_,e,⟨_,e2,_⟩,_⟩=>by rw[e,e2];rfl) fun cdv A outer s H vs Q E hr hsp=>?_
 have hu:=eF hr
 refine⟨_,(ak (bu (i:=2) xZ.nd rfl (Or.inl rfl) (aK T.cX (qm T) (by exact hr.mono (by decide)) rfl (aj (pv 0) (aj (pv 1) aq))))
   (ak (a_ (aR jr (pv 2) (bz T.aW rfl) (aQ _)) (az (aC (bc (aj (pv 2) aq)))) aL)
   (ak (bu (i:=3) xZ.nd rfl (Or.inl rfl) (cM (by exact hu) (aD (K:=K) (pv 0) rfl) (pv 1) (fun _ _=>rfl)))
   (ak (bu (i:=4) xZ.nd rfl (Or.inl rfl) (aK T.lA (Ez T) (by exact hr.mono (by decide)) rfl (aj (pv 0) (aj (pv 3) aq))))
   (ak (bu (i:=5) xZ.nd rfl (Or.inr rfl) (aK T.dY (BZ T L) (by exact hr.mono (by decide)) rfl (aj (pv 0) (aj (pv 3) (aj (pv 4) aq)))))
   (ak (a_ (aR aaP (pv 5) Vg (aQ _)) (az (aC (bc (aj aH aq)))) aL)
   (ak (iQ (aK T.o_ (QH T) (by exact hr.mono (by decide)) rfl (aj (pv 0) (aj (t7 (own:=[("other",6)]) rfl xZ.nd (cY (pv 4)) (cH (by show qF ["board","number","refusal","initiator","free","job","other"] (aA Iw) _ _=true;decide +kernel)) (fun _ _ _ _ _=>(bL (i:=6) xZ.nd rfl (Or.inl rfl))) (fun _ _ _ _ _=>(jD (aR jr (aD (K:=K) (pv 6) rfl) (aD (K:=K) (pv 5) rfl) (aQ _)))) (fun _ _ _ _ _=>(pv 6))) aq))))
   (ak (iQ (aK T.uv (Uw T) (by exact hr.mono (by decide)) rfl (aj (pv 3) (aj (pv 5) aq))))
   (az (aC (bc (aj (aD (K:=K) (pv 5) rfl) aq)))))))))))),?_⟩
 obtain⟨X,A,s,c,rest,rfl,⟨n,rfl,rfl⟩,hx,iv,d⟩:=hsp
 have h:=hx.rep
 refine aN (iw (ug (aa rfl) (aa rfl) h iv) fun H1 s1=>?_)
 (try dsimp only)
 refine cU (aP (fM (aa rfl) aJ)) (fun q H2 s2=>?_) fun q H2 s2=>?_
 ·exact cI (aZ (aa rfl)) fun v H3 s3 l=>d.no hx (WN (by simpa using jl q)) (s1.trans (s2.trans s3)) l
 have q:mq s n=0:=by simpa using q
 obtain⟨q1,q2,q3⟩:=Rx q
 have d:Done T X H A (match Vbbhaj.chosen s (Vbbhaj.initAt s n)with | none=>Vbbhaj.yes s 0 | some j=>Vbbhaj.yes (Vbbhaj.picked s n j) j.num) Q:=by
  have e:Vbbhaj.step s (.pick n)=_:=(if_neg (nF q1)).trans ((if_neg (nF q2)).trans (if_neg (by rw[q3];simp)))
  rw[e]at d
  exact d
 obtain⟨cl1,cl2⟩:=Jf iv q1 q2
 have hx2:=hx.up (s1.trans s2)
 have h2:=hx2.rep
 obtain⟨a,i1,i2,i3⟩:=iW h2 iv.g q1
 generalize hix:Vbbhaj.initAt s n=x at d cl1 cl2 i1 i3
 show m6 _ _ _ _ _
 refine aN (iw (fH (bU (aa rfl) h2) (aa rfl) h2.ini i2) fun H3 s3=>?_)
 (try dsimp only)
 have hx3:=hx2.up s3
 have h3:=hx3.rep
 refine aN (uY (R:=IsL (refs (A.L.filter fun q=>Vbbhaj.free s x q.2))) (nH (G:=Wk T) (aB (aa rfl) (aB (aa rfl) aV)) fun H4 s4=>⟨A,s,a,x,rfl,h3.up s4,iv,i3.up (s3.trans s4),cl1,cl2,rfl⟩) ?_)
 rintro v H4 s4 ⟨lf,rfl,hlf⟩
 (try dsimp only)
 refine aN (Gm (aB (aa rfl) (aB (aa rfl) (aB (aa rfl) aV))) fun H5 s5=>?_)
 refine⟨X,A,s,a,x,lf,rfl,hx3.up (s4.trans s5),iv,i3.up (s3.trans (s4.trans s5)),cl2,s5 _ _ hlf,fun v H6 f6 r6 hv=>?_⟩
 (try dsimp only)
 have fx:=(s1.trans (s2.trans (s3.trans (s4.trans s5)))).fix.trans f6
 rcases hv with ⟨hn,rfl⟩|⟨b,j,hj,m,rfl⟩
 ·rw[hn]at d
  refine cU (b:=true) (aP ((QL (aa rfl) aJ).cast rfl)) (fun _ H7 s7=>?_) (fun z=>by cases z)
  exact cI (aZ aJ) fun v H8 s8 lv=>d.go (r6.up (s7.trans s8)) rfl (fx.trans (s7.trans s8).fix) lv
 simp only[hj]at d
 obtain⟨mj,hfree⟩:=Hj hj
 have hw:=(rO (CJ hfree)).1
 refine cU (b:=false) (aP ((QL (aa rfl) aJ).cast (by simp))) (fun z=>by cases z) (fun _ H7 s7=>?_)
 have r7:=r6.up s7
 have h7:=r7.rep
 have hlf7:H7 lf=some (.lst (refs (A.L.filter fun q=>Vbbhaj.free s x q.2))):=s7 _ _ (f6 _ _ (s5 _ _ hlf) rfl)
 show m6 _ _ _ _ _
 have lcp:EvL _ [some (.ref A.b),some (.int n),some (.int (mq s n)),some (.ref a),some (.ref lf),some (.ref b),none] H7 (((A.L.filter fun q=>Vbbhaj.free s x q.2).filter fun p=>decide (p.2.num≠j.num)).map fun p=>V.ref p.1) :=
  jZ (K:=K) (k:=6) (tt:=WY (tOp rNe (j4 K (b8 6) "number") (j4 K (b8 5) "number"))) (te:=b8 6) (tl:=b8 4) (ys:=A.L.filter fun q=>Vbbhaj.free s x q.2) (fun p=>V.ref p.1) (fun p=>decide (p.2.num≠j.num)) (fun p=>V.ref p.1) ((aa rfl).toL hlf7) (eZ (h7.Js _)) (fun y hy=>aP ((fM (gA (aa rfl) (h7.v9 _ y hy)) (gA (aa rfl) (h7.job _ m))).cast (by congr 1;rw[Bool.eq_iff_iff];simp;omega))) (fun y hy _=>aa rfl)
 generalize hF:((A.L.filter fun q=>Vbbhaj.free s x q.2).filter fun p=>decide (p.2.num≠j.num))=F at lcp
 have memF:∀p∈F,p∈A.L∧p.2.num≠j.num:=fun p hp=>by
  rw[← hF]at hp
  obtain⟨h1,h2⟩:=List.mem_filter.mp hp
  exact⟨(List.mem_filter.mp h1).1,by simpa using h2⟩
 refine aN (Qv (Lp (aa rfl) lcp Wq) fun vs H8 s8 ⟨v,e,lp,ev,hlp⟩=>?_)
 subst e
 subst ev
 have sF:cW (F.map (·.2)):=by
  refine List.Pairwise.sublist (List.Sublist.map _ ?_) h7.Mg
  rw[← hF]
  exact List.filter_sublist.trans List.filter_sublist
 refine⟨X,A,s,lp,F,rfl,r7.up s8,hlp,sF,fun p hp=>(memF p hp).1,fun H9 L9 f9 r9 k9=>?_⟩
 (try dsimp only)
 have mj9:(b,j)∈L9:=k9 _ m fun q hq=>(memF q hq).2
 refine aN (o7 (aB (aa rfl) (aB (aa rfl) aV)) fun H10 s10=>?_)
 refine⟨X,_,_,n.toNat - 1,a,x,b,j,rfl,r9.up s10,i1,mj9,hw,fun H11 f11 r11=>?_⟩
 (try dsimp only)
 have ej:(b,({j with status:=.running,passed:=0,due:=0}:Vbbhaj.Job))∈(L9.map fun p=>if p.2.num=j.num then (p.1,({j with status:=.running,passed:=0,due:=0}:Vbbhaj.Job))else p):=List.mem_map.mpr ⟨(b,j),mj9,if_pos rfl⟩
 have hpo:Vbbhaj.passOver s x j.num s.stamp s.jobs=poF s.passes (F.map (·.2)) s.stamp s.jobs:=by
  rw[zm s x j.num s.jobs s.stamp iv.g.srt,← hF]
  congr 1
  rw[← h.js,List.filter_filter,List.filter_map]
  rfl
 have epk:Vbbhaj.picked s n j={s with stamp:=(poF s.passes (F.map (·.2)) s.stamp s.jobs).1,jobs:=Vbbhaj.setJob (poF s.passes (F.map (·.2)) s.stamp s.jobs).2 {j with status:=.running,passed:=0,due:=0},inits:=s.inits.set (n.toNat - 1) {x with job:=j.num}}:=by
  rw[← hpo,← hix]
  rfl
 rw[epk]at d
 refine cI (aZ (gA (aa rfl) (r11.rep.job _ ej))) fun v H12 s12 lv=>d.go (r11.up s12) rfl ?_ lv
 exact fx.trans ((s7.trans s8).fix.trans (f9.trans (s10.fix.trans (f11.trans s12.fix))))
def Em(is:List Nat)(L:List (Addr×Vbbhaj.Job)):List (Addr×Vbbhaj.Job):=is.filterMap fun i=>L[i]?
theorem Nh{is:List Nat}{L:List (Addr×Vbbhaj.Job)}(h:∀i∈is,i<L.length):(is.map fun i=>(refs L).getD i .non)=refs (Em is L):=by
 induction is with
 |nil=>rfl
 |cons i r ih =>
  have hi:=h i List.mem_cons_self
  unfold Em at ih ⊢
  rw[List.map_cons,ih fun k hk=>h k (List.mem_cons_of_mem _ hk),List.filterMap_cons,List.getElem?_eq_getElem hi]
  show _=refs (L[i]::_)
  unfold refs
  rw[List.map_cons]
  congr 1
  rw[List.getD_eq_getElem?_getD,List.getElem?_map,List.getElem?_eq_getElem hi]
  rfl
theorem Us(L:List (Addr×Vbbhaj.Job)):Em (List.range L.length) L=L:=by
 unfold Em
 refine List.ext_getElem? fun i=>?_
 have:∀(L:List (Addr×Vbbhaj.Job)),(List.range L.length).filterMap (fun i=>L[i]?)=L:=by
  intro L
  induction L with
  |nil=>rfl
  |cons a r ih =>
   rw[List.length_cons,List.range_succ_eq_map,List.filterMap_cons]
   show a::_=_
   rw[List.filterMap_map]
   congr 1
 rw[this]
theorem Nj{is:List Nat}{L:List (Addr×Vbbhaj.Job)}(h:is.Perm (List.range L.length)):(Em is L).Perm L:=by
 have:=h.filterMap (fun i=>L[i]?)
 rw[show(List.range L.length).filterMap (fun i=>L[i]?)=L from Us L]at this
 exact this
theorem HD{is:List Nat}{f:Vbbhaj.Job→List Int}{L:List (Addr×Vbbhaj.Job)}(h:is.Pairwise fun i j=>HT.lexLt (kOf f L j) (kOf f L i)=false):(Em is L).Pairwise fun p q=>HT.lexLt (f q.2) (f p.2)=false:=by
 unfold Em
 rw[List.pairwise_filterMap]
 refine h.imp fun{i j} hij p hp q hq=>?_
 rw[zj hp,zj hq]at hij
 exact hij
theorem LC(T:Txt K mg)(L:MT T base):bG P w K mg base CX0 5 T.fJ.f T.fJ.fd ["board","class_of"] (spC T (dI .order)):=by
 refine Fun.okC T.fJ.F cQ (fun vs H Q E ⟨_,_,_,_,_,e,⟨_,e2,_⟩,_⟩=>by rw[e,e2];rfl) fun Ar outer sh H vs Q E hr hsp=>?_
 have hu:=eF hr
 have hL:G5 (Mp CX0 P w K mg base ["board","class_of","ready","due","others","job"] "tell_order" (aA dN) T.fJ.f T.fJ.fd.code Ar outer sh H E).nox T.mH "tell_order.<locals>.<lambda>":=⟨L.c2,L.bm,by rfl⟩
 refine⟨_,(ak (a_ (cD (bJ (aK T.fW (lK T) (by exact hr.mono (by decide)) rfl (aj (pv 1) aq)))) (az (aC (bc (aj (bz T.bH rfl) aq)))) aL)
   (ak (xH (i:=2) (own:=[("job",5)]) rfl cQ.nd rfl rfl (Bj rfl rfl rfl (by decide +kernel)) (cY (aK T.jx (BJ T) (by exact hr.mono (by decide)) rfl (aj (pv 0) aq))) (cH (by show qF ["board","class_of","ready","due","others","job"] (aA dN) _ _=true;decide +kernel)) (fun _ _ _ _ _=>(bL (i:=5) cQ.nd rfl (Or.inl rfl))) (fun _ _ _ _ _=>(jD (aR dm (aD (K:=K) (pv 5) rfl) (pv 1) (aQ _)))) (fun _ _ _ _ _=>(pv 5)))
   (ak (bu (i:=3) cQ.nd rfl (Or.inl rfl) (RM "job" 5 rfl cQ.nd hr.in1.depth hL rfl T.uX xj (t7 (own:=[("job",5)]) rfl cQ.nd (cY (pv 2)) (cH (by show qF ["board","class_of","ready","due","others","job"] (aA dN) _ _=true;decide +kernel)) (fun _ _ _ _ _=>(bL (i:=5) cQ.nd rfl (Or.inl rfl))) (fun _ _ _ _ _=>(jD (bJ (aK T.lN (uB T) (by exact hr.mono (by decide)) rfl (aj (pv 5) aq))))) (fun _ _ _ _ _=>(pv 5))) (cH (by show qF ["board","class_of","ready","due","others","job"] (aA dN) _ _=true;decide +kernel)) (fun _ _ _ _ _ _=>(aD (K:=K) (pv 5) rfl))))
   (ak (bu (i:=4) cQ.nd rfl (Or.inl rfl) (RM "job" 5 rfl cQ.nd hr.in1.depth hL rfl T.uX xj (t7 (own:=[("job",5)]) rfl cQ.nd (cY (pv 2)) (cH (by show qF ["board","class_of","ready","due","others","job"] (aA dN) _ _=true;decide +kernel)) (fun _ _ _ _ _=>(bL (i:=5) cQ.nd rfl (Or.inl rfl))) (fun _ _ _ _ _=>(jD (cD (bJ (aK T.lN (uB T) (by exact hr.mono (by decide)) rfl (aj (pv 5) aq)))))) (fun _ _ _ _ _=>(pv 5))) (cH (by show qF ["board","class_of","ready","due","others","job"] (aA dN) _ _=true;decide +kernel)) (fun _ _ _ _ _ _=>(U9 (aj (acs ZX (aK T.ph (CG T) (by exact(hr.in1.in1.deeper _).mono (by decide)) rfl (aj (pv 5) (aj (aD (K:=K) (pv 0) rfl) aq)))) (aj (aD (K:=K) (pv 5) rfl) aq))))))
   (az (aC (jm qx (bc (aj (bR bC rfl T.iT gh (aj (pv 2) aq)) aq)) (aK T.dJ (fV T) (by exact hr.mono (by decide)) rfl (aj (t7 (own:=[("job",5)]) rfl cQ.nd (cY (jm qx (pv 3) (pv 4))) (cH (by show qF ["board","class_of","ready","due","others","job"] (aA dN) _ _=true;decide +kernel)) (fun _ _ _ _ _=>(bL (i:=5) cQ.nd rfl (Or.inl rfl))) (fun _ _ _ _ _=>yh) (fun _ _ _ _ _=>(aD (K:=K) (pv 5) rfl))) aq))))))))),?_⟩
 obtain⟨X,A,s,_,rest,rfl,⟨c,rfl,rfl⟩,hx,iv,d⟩:=hsp
 refine cU (cC (fu (iV (aa rfl)))) (fun q H1 s1=>?_) fun q H1 s1=>?_
 ·exact cI (aZ aJ) fun v H3 s3 l=>d.no (n:=-1) hx (if_pos (show Vbbhaj.isClass c=false from jl q)) (s1.trans s3) l
 have qc:Vbbhaj.isClass c=true:=nG q
 have cN:((c.toNat:Nat):Int)=c:=yq (lo:=1) (hi:=36) qc (by decide)
 have d:Done T X H A (Vbbhaj.yes s (Vbbhaj.inOrder s c.toNat).length [(Vbbhaj.inOrder s c.toNat).map fun j=>j.num]) Q:=by
  have e:Vbbhaj.step s (.order c)=_:=if_neg (nF qc)
  rw[e]at d
  exact d
 have hx1:=hx.up s1
 have h1:=hx1.rep
 show m6 _ _ _ _ _
 refine aN (uY (jZ (K:=K) (k:=5) (ys:=A.L.filter fun q=>Vbbhaj.ready q.2) (fun p=>V.ref p.1) (fun p=>p.2.cls==c.toNat) (fun p=>V.ref p.1) (uh (aa rfl) h1) (eZ (h1.Js _)) (fun y hy=>aP ((bY (nu (aa rfl) (h1.v9 _ y hy)) (aa rfl)).cast (by congr 1;rw[Bool.eq_iff_iff];simp;omega))) (fun y hy _=>aa rfl)) ?_)
 rintro v H2 s2 ⟨lr,rfl,hlr⟩
 (try dsimp only)
 have hlr:H2 lr=some (.lst (refs ((A.L.filter fun q=>Vbbhaj.ready q.2).filter fun p=>p.2.cls==c.toNat))):=hlr
 generalize hR:((A.L.filter fun q=>Vbbhaj.ready q.2).filter fun p=>p.2.cls==c.toNat)=R at hlr
 have memR:∀p∈R,p∈A.L:=fun p hp=>by
  rw[← hR]at hp
  exact(List.mem_filter.mp (List.mem_filter.mp hp).1).1
 have fewR:R.length≤500:=by
  rw[← hR]
  exact Nat.le_trans (List.length_filter_le ..) (h1.Js _)
 have hRj:R.map (·.2)=s.jobs.filter fun j=>Vbbhaj.ready j&&j.cls==c.toNat:=by
  rw[← hR,← h1.js,List.filter_filter,List.filter_map]
  congr 1
  refine List.filter_congr fun p _=>?_
  show(p.2.cls==c.toNat&&Vbbhaj.ready p.2)=(Vbbhaj.ready p.2&&p.2.cls==c.toNat)
  rw[Bool.and_comm]
 have hx2:=hx1.up s2
 have h2:=hx2.rep
 obtain⟨ps,hP,hT⟩:=id h2.tabs.2
 refine aN ?_
 show tKw _ _ _ _ _ _
 have DlL:EvL _ [some (.ref A.b),some (.int c),some (.ref lr),none,none,none] H2 (refs (R.filter fun p=>decide (p.2.due≠0))) :=
  jZ (K:=K) (k:=5) (tt:=tB (fG (ro (YX T fun j=>.bl (decide (j.due≠0)))) [] E0 (bw (b8 5) eV))) (te:=b8 5) (tl:=b8 2) (ys:=R) (fun p=>V.ref p.1) (fun p=>decide (p.2.due≠0)) (fun p=>V.ref p.1) ((aa rfl).toL hlr) (eZ fewR) (fun y hy=>fu (nW (aa rfl) (h2.job _ (memR y hy)))) (fun y hy _=>aa rfl)
 refine Wf (xs:=refs (R.filter fun p=>decide (p.2.due≠0))) (tup:=false) (kf:=kOf (fun j=>[(j.due:Int)]) (R.filter fun p=>decide (p.2.due≠0))) DlL ⟨ps,hP,hT⟩ (fun i v hv=>?_) (by simp) (fun is dD H3 hs g nD hD=>?_)
 ·obtain⟨p,hp,rfl⟩:=Al hv
  have jb:=(h2.job p (memR p (List.mem_filter.mp (List.mem_of_getElem? hp)).1)).but hP
  rw[zj hp]
  exact(nM (aa rfl) jb).imp fun y H4 _ e=>⟨_,rfl,e⟩
 (try dsimp only)
 rw[qj]at hs
 have hin1:∀i∈is,i<(R.filter fun p=>decide (p.2.due≠0)).length:=fun i hi=>by
  have:=hs.1.mem_iff.mp hi
  rw[List.mem_range]at this
  exact this
 rw[Nh hin1]at hD
 have pD:=Nj hs.1
 have sD:=HD hs.2
 generalize hDs:Em is (R.filter fun p=>decide (p.2.due≠0))=Ds at hD pD sD
 have hx3:=hx2.gr L g (.inr ⟨rfl,rfl⟩)
 have h3:=hx3.rep
 have f3:=Jp g hP
 have hlr3:=f3 _ _ hlr rfl
 obtain⟨ps3,hP3,hT3⟩:=id h3.tabs.2
 refine aN ?_
 show tKw _ _ _ _ _ _
 have OlL:EvL _ [some (.ref A.b),some (.int c),some (.ref lr),some (.ref dD),none,none] H3 (refs (R.filter fun p=>!decide (p.2.due≠0))) :=
  jZ (K:=K) (k:=5) (tt:=acI (tB (fG (ro (YX T fun j=>.bl (decide (j.due≠0)))) [] E0 (bw (b8 5) eV)))) (te:=b8 5) (tl:=b8 2) (ys:=R) (fun p=>V.ref p.1) (fun p=>!decide (p.2.due≠0)) (fun p=>V.ref p.1) ((aa rfl).toL hlr3) (eZ fewR) (fun y hy=>cC (fu (nW (aa rfl) (h3.job _ (memR y hy))))) (fun y hy _=>aa rfl)
 refine Wf (xs:=refs (R.filter fun p=>!decide (p.2.due≠0))) (tup:=true) (kf:=kOf (fun j=>[-((Vbbhaj.rank s j:Nat):Int),(j.num:Int)]) (R.filter fun p=>!decide (p.2.due≠0))) OlL ⟨ps3,hP3,hT3⟩ (fun i v hv=>?_) (fun _ m=>by unfold kOf;split<;>simp) (fun is2 dO H4 hs2 g2 nO hO=>?_)
 ·obtain⟨p,hp,rfl⟩:=Al hv
  have jb:=(h3.job p (memR p (List.mem_filter.mp (List.mem_of_getElem? hp)).1)).but hP3
  obtain⟨dxb,eb⟩:=h3.brd
  have eb':=We hP3 eb (by intro z;cases z)
  have ag:=iv.g.aging
  rw[zj hp]
  refine(Wm (aB (Zv ((CT (aa rfl) jb (b_ (aa rfl) eb' T.bN T.uw (BV.l_a _)) ⟨by show(1:Int)≤(s.aging:Int);omega,by show(s.aging:Int)≤1000000;omega⟩).cast (w:=.int ((Vbbhaj.rank s p.2:Nat):Int)) (by rw[← Px];rfl))) (aB (gA (aa rfl) jb) aV)) (by show 2≤sizeLine;decide)).imp fun y H4 _ ⟨t,e1,e2⟩=>⟨t,e1,e2⟩
 (try dsimp only)
 rw[qj]at hs2
 have hin2:∀i∈is2,i<(R.filter fun p=>!decide (p.2.due≠0)).length:=fun i hi=>by
  have:=hs2.1.mem_iff.mp hi
  rw[List.mem_range]at this
  exact this
 rw[Nh hin2]at hO
 have pO:=Nj hs2.1
 have sO:=HD hs2.2
 generalize hOs:Em is2 (R.filter fun p=>!decide (p.2.due≠0))=Os at hO pO sO
 have hx4:=hx3.gr L g2 (.inr ⟨rfl,rfl⟩)
 have h4:=hx4.rep
 have f4:=Jp g2 hP3
 have hD4:=f4 _ _ hD rfl
 have hlr4:=f4 _ _ hlr3 rfl
 have memO:∀p∈Ds++Os,p∈A.L:=fun p hp=>by
  rcases List.mem_append.mp hp with hp|hp
  ·exact memR _ (List.mem_filter.mp (pD.mem_iff.mp hp)).1
  ·exact memR _ (List.mem_filter.mp (pO.mem_iff.mp hp)).1
 have eOrd:(Ds++Os).map (·.2)=Vbbhaj.inOrder s c.toNat:=by
  rw[List.map_append]
  refine Um iv.g ?_ ?_ ?_ ?_
  ·rw[← hRj,List.filter_map]
   exact pD.map _
  ·rw[← hRj,List.filter_map]
   exact pO.map _
  ·rw[List.pairwise_map]
   refine sD.imp fun{p q} hpq=>?_
   rw[Ay,decide_eq_false_iff_not]at hpq
   omega
  ·rw[List.pairwise_map]
   refine sO.imp fun{p q} hpq=>?_
   rw[aem]at hpq
   rw[← hpq]
   unfold Vbbhaj.higher
   rw[Bool.eq_iff_iff]
   simp
   omega
 have lenR:R.length=(Vbbhaj.inOrder s c.toNat).length:=by
  rw[← eOrd,List.length_map,List.length_append,pD.length_eq,pO.length_eq]
  have:=(List.filter_append_perm (fun p:Addr×Vbbhaj.Job=>decide (p.2.due≠0)) R).length_eq
  rw[List.length_append]at this
  exact this.symm
 have few2:(Ds++Os).length≤500:=by
  have:=congrArg List.length eOrd
  rw[List.length_map]at this
  omega
 have fin:EvL _ [some (.ref A.b),some (.int c),some (.ref lr),some (.ref dD),some (.ref dO),none] H4 (((Ds++Os).filter fun _=>true).map fun p=>V.int (p.2.num:Nat)) :=
  jZ (K:=K) (k:=5) (tt:=YB) (te:=j4 K (b8 5) "number") (tl:=tOp abq (b8 3) (b8 4)) (ys:=Ds++Os) (fun p=>V.ref p.1) (fun _=>true) (fun p=>V.int (p.2.num:Nat)) ((mC ((aa rfl).toL hD4) ((aa rfl).toL hO) (sU (by rw[qj,qj];rw[List.length_append]at few2;omega))).cast (by unfold refs;rw[List.map_append])) (eZ few2) (fun y hy=>PQ) (fun y hy _=>gA (aa rfl) (h4.job _ (memO y hy)))
 rw[filter_true']at fin
 have erow:((Ds++Os).map fun p=>V.int (p.2.num:Nat))=pC ((Vbbhaj.inOrder s c.toNat).map fun j=>j.num):=by
  rw[← eOrd]
  unfold pC
  rw[List.map_map,List.map_map]
  rfl
 rw[erow]at fin
 have lrow:((Vbbhaj.inOrder s c.toNat).map fun j=>j.num).length≤500:=by rw[List.length_map,← lenR];exact fewR
 refine cI (mC (aZ (lY (n:=(Vbbhaj.inOrder s c.toNat).length) ((aa rfl).toL hlr4) (by rw[qj,lenR]))) (gJ fin (iB (by rw[iR];omega))) (sU (by simp only[List.length_cons,List.length_nil,iR];omega))) fun v H5 s5 lv=>d.go (hx4.up s5) rfl ?_ ?_
 ·exact(s1.trans s2).fix.trans (f3.trans (f4.trans s5.fix))
 ·have e2:wu (Vbbhaj.yes s (Vbbhaj.inOrder s c.toNat).length [(Vbbhaj.inOrder s c.toNat).map fun j=>j.num]).2=_:=Ks (((Vbbhaj.inOrder s c.toNat).length:Nat):Int) _
  rw[e2]
  rw[iR]at lv
  exact lv
end
end Jq
end
section
set_option Elab.async false
set_option linter.all false
set_option maxRecDepth 100000
set_option maxHeartbeats 1000000
namespace Jq
open PySem PySem.Spec PyProof.Rows L2
def acM(K:PySem.W.Frag)(ty:TE):TE:=fun σ H Q=>ty σ H fun y H1=>∃p n k,y=.int p∧PyVbbhaj.shape p=some (n,k)∧∀t,(∀H:Hp,SqT K H t [.int (n:Nat),.int (k:Nat)])→Q (.ref t) H1
theorem Xo{X:Cx}{K:PySem.W.Frag}{i:Expr}{ty:TE}{p pos:Pos}(S:yU X.K X.mg)(hi:PE X i ty)(hK:X.K=K:=by rfl)(hg:Gl X "SHAPES":=by rfl)(hs:acw i:=by exact fun _ _=>rfl):PE X (.Subscript (.Name "SHAPES" p) i pos) (acM K ty):=by
 subst hK
 obtain⟨a,vs,e,dd,sh⟩:=S
 intro pins s σ H Q I h
 refine Xc PySem.F.slot_dict_getitem.lookup hs (thn ((WW (v:=.ref a) hg e rfl) pins s σ H (fun v H1=>v=.ref a∧H1=H) I ⟨rfl,rfl⟩) fun u s1 ⟨x,H1,I1,rx,ex,eH⟩=>?_)
 subst ex
 subst eH
 obtain rfl:u=Value.ref a:=rx
 refine thn (hi pins s1 σ H1 _ I1 h) fun iv s2 ⟨y,H2,I2,ry,p,n,k,ey,hp,q⟩=>?_
 subst ey
 obtain⟨t,ht,hsq⟩:=sh p n k hp
 have D:=dd X.prog X.w s2.heap I2.kIn
 exact⟨D.typeIs,wpAny_getItem_of (Jy (k:=(Sum.inl p:Key)) ry) D.mapOf ht ⟨.ref t,H2,I2.tok _,rfl,q t hsq⟩⟩
section
variable {P:Program}{w:World}{K:PySem.W.Frag}{mg:Str→Option Value}{base:Heap}
variable {σ:St}{H:Hp}{ta tb tc td:TE}{a:Addr}{j:Vbbhaj.Job}{A:Ad}{s:Vbbhaj.State}{T:Txt K mg}{X:Addr→Prop}{D:Ends}
def Rt(T:Txt K mg):Sp:=fun vs H Q _=>∃x dx l,vs=[.ref x,.ref l]∧H x=some (.ins T.g_ dx [])∧∀H',Kp x H H'→H' x=some (.ins T.g_ dx (RV.mk l 0).fs)→Q .non H'
theorem JP(T:Txt K mg):bG P w K mg base CX0 1 T.gw.f T.gw.fd ["self","calls"] (Rt T):=by
 refine T.gw.F.ok Jt (fun vs H Q E ⟨_,_,_,e,_⟩=>by rw[e];rfl) fun cdv A outer s H vs Q E hr hsp=>⟨_,(ak (bF (pv 0) (pv 1) rfl)
   (az (bF (pv 0) aH rfl))),?_⟩
 obtain⟨x,dx,l,rfl,e0,k⟩:=hsp
 refine aN (bT (aa rfl) (aa rfl) e0 T.dz T.jc (lt1000 (by decide)) fun H1 k1 e1=>?_)
 (try dsimp only)
 rw[RV.abu]at e1
 refine bT aJ (aa rfl) e1 T.dz T.dX (lt1000 (by show 1≤20;decide)) fun H2 k2 e2=>?_
 (try dsimp only)
 rw[RV.abp]at e2
 exact k H2 (k1.trans k2) e2
def RL(lo:HO)(xs:List Int):Prop:=lo=.lst (xs.map V.int)∨∃ob,lo=.frz ob (.lst (xs.map V.int))
theorem RL.fix{lo:HO}{xs:List Int}(q:RL lo xs):Ql lo=true:=by
 rcases q with rfl|⟨ob,rfl⟩
 ·rfl
 ·rfl
theorem RL.rd{lo:HO}{xs:List Int}{l:Addr}(q:RL lo xs)(e:H l=some lo):SqL K H l (xs.map V.int):=by
 rcases q with rfl|⟨ob,rfl⟩
 ·exact .inl (.inl e)
 ·exact .inl (.inr ⟨ob,e⟩)
def Bx(T:Txt K mg)(H:Hp)(r dx l:Addr)(p:Nat)(lo:HO):Prop:=H r=some (.ins T.g_ dx (RV.mk l p).fs)∧H l=some lo
theorem Bx.up{H H':Hp}{r dx l:Addr}{p:Nat}{lo:HO}(h:Bx T H r dx l p lo)(s:aY H H'):Bx T H' r dx l p lo:=⟨s _ _ h.1,s _ _ h.2⟩
theorem Bx.ne{H:Hp}{r dx l:Addr}{p:Nat}{lo:HO}{xs:List Int}(h:Bx T H r dx l p lo)(q:RL lo xs):l≠r:=cB h.2 h.1 (by
 intro z
 rcases q with rfl|⟨ob,rfl⟩<;>cases z)
section
variable {lo:HO}{xs:List Int}{l:Addr}
theorem abG(ha:Ev ta σ H (.ref l))(e:H l=some lo)(q:RL lo xs):Ev (tCB (fun xs H Q=>∃p ys,xs=[.ref p]∧(SqL K H p ys∨SqT K H p ys)∧Q (.int ys.length) H) (bw ta eV)) σ H (.int xs.length):=fun H1 s Q k =>
 ha H1 s _ fun x' H2 s2 ex=>⟨l,xs.map V.int,by rw[ex],.inl (q.rd ((s.trans s2) _ _ e)),k _ H2 s2 (by rw[List.length_map])⟩
theorem acF{i:Int}{v:V}(ha:Ev ta σ H (.ref l))(e:H l=some lo)(q:RL lo xs)(hb:Ev tb σ H (.int i))(ei:atI (xs.map V.int) i=some v):Ev (tOp (rIx K) ta tb) σ H v:=fun H1 s Q k =>
 ha H1 s _ fun x' H2 s2 ex=>hb H2 (s.trans s2) _ fun y' H3 s3 e3=>.inl ⟨l,xs.map V.int,i,v,ex,e3,q.rd ((s.trans (s2.trans s3)) _ _ e),ei,k _ H3 (s2.trans s3) rfl⟩
theorem Zx{tl th:TE}{a b:Nat}(ha:Ev ta σ H (.ref l))(e:H l=some lo)(q:RL lo xs)(hl:Ev tl σ H (.int (a:Nat)))(hh:Ev th σ H (.int (b:Nat)))(h1:a≤b)(h2:b≤xs.length):EvP (tSl (ad9 K) ta (Y6 tl) (Y6 th)) σ H (IsN H (((xs.drop a).take (b - a)).map V.int)):=fun H1 s1 Q k =>
 ha H1 s1 _ fun v H2 s2 ev=>hl H2 (s1.trans s2) _ fun x H3 s3 ex=>⟨(a:Nat),ex,hh H3 (s1.trans (s2.trans s3)) _ fun y H4 s4 ey=>⟨(b:Nat),ey,l,xs.map V.int,ev,q.rd ((s1.trans (s2.trans (s3.trans s4))) _ _ e),fun p hp=>k _ _ ((s2.trans (s3.trans s4)).trans (ji hp)) ⟨p,rfl,(s1.trans (s2.trans (s3.trans s4))).free hp,by
  rw[aX]
  unfold ZP
  rw[HT.WK,HT.WK,List.length_map,Nat.min_eq_left (Nat.le_trans h1 h2),Nat.min_eq_left h2,List.map_take,List.map_drop]⟩⟩⟩
end
def adO(T:Txt K mg):GT:=fun vs H R=>∃r dx l p lo xs,vs=[.ref r]∧Bx T H r dx l p lo∧RL lo xs∧R=fun v _=>v=.bl (decide (xs.length≤p))
theorem Br(T:Txt K mg):bG P w K mg base CX0 1 T.fC.f T.fC.fd ["self"] (ro (adO T)):=by
 refine cO T.fC.F Bs (fun vs H R ⟨_,_,_,_,_,_,e,_⟩=>by rw[e];rfl) fun cdv A outer s H E hr=>⟨_,(az (aC (fK Xb (aD (K:=K) (pv 0) rfl) (bR bC rfl T.iT gh (aj (aD (K:=K) (pv 0) rfl) aq)) (aQ _)))),?_⟩
 rintro vs R ⟨r,dx,l,p,lo,xs,rfl,h,hlo,rfl⟩
 refine aU ((eY (b_ (aa rfl) h.1 T.dz T.dX (RV.A_ _)) (abG (b_ (aa rfl) h.1 T.dz T.jc (RV.O6 _)) h.2 hlo)).cast ?_)
 congr 1
 rw[Bool.eq_iff_iff]
 simp
def acW(T:Txt K mg):Sp:=fun vs H Q _=>∃r dx l p lo xs n,vs=[.ref r]∧Bx T H r dx l p lo∧RL lo xs∧xs[p]?=some n∧∀H',Kp r H H'→Bx T H' r dx l (p+1) lo→Q (.int n) H'
theorem j9(T:Txt K mg):bG P w K mg base CX0 1 T.cG.f T.cG.fd ["self"] (acW T):=by
 refine T.cG.F.ok qH (fun vs H Q E ⟨_,_,_,_,_,_,_,e,_⟩=>by rw[e];rfl) fun cdv A outer s H vs Q E hr hsp=>⟨_,(ak (bu (i:=1) qH.nd rfl (Or.inl rfl) (cZ (bA (K:=K)) (aD (K:=K) (pv 0) rfl) (aD (K:=K) (pv 0) rfl) (fun _ _=>rfl)))
   (ak (uE (pv 0) aH G4)
   (az (aC (pv 1))))),?_⟩
 obtain⟨r,dx,l,p,lo,xs,n,rfl,h,hlo,hn,k⟩:=hsp
 refine aN (iw (v:=.int n) (acF (K:=K) (b_ (aa rfl) h.1 T.dz T.jc (RV.O6 _)) h.2 hlo (b_ (aa rfl) h.1 T.dz T.dX (RV.A_ _)) ?_) fun H1 s1=>?_)
 ·exact Qt (by rw[List.getElem?_map,hn];rfl)
 (try dsimp only)
 have h1:=h.up s1
 refine aN (FQ aJ (aa rfl) h1.1 T.dz T.dX (RV.few _) (RV.A_ _) fun H2 k2 e2=>?_)
 (try dsimp only)
 rw[RV.WT]at e2
 refine cI (aa rfl) fun v H3 s3 ev=>?_
 subst ev
 exact k H3 ((s1.kp r).trans (k2.trans (s3.kp r))) ⟨s3 _ _ e2,s3 _ _ (k2 _ _ h1.2 (h1.ne hlo))⟩
def aea(T:Txt K mg):Sp:=fun vs H Q _=>∃r dx l p lo xs,∃m:Nat,vs=[.ref r]∧Bx T H r dx l p lo∧RL lo xs∧xs[p]?=some (m:Int)∧p+1+m≤xs.length∧xs.length≤20000 ∧
 ∀H' q,Kp r H H'→H q=none→H' q=some (.lst (((xs.drop (p+1)).take m).map V.int))→Bx T H' r dx l (p+1+m) lo→Q (.ref q) H'
theorem Dg(T:Txt K mg):bG P w K mg base CX0 2 T.fP.f T.fP.fd ["self"] (aea T):=by
 refine T.fP.F.ok oK (fun vs H Q E ⟨_,_,_,_,_,_,_,e,_⟩=>by rw[e];rfl) fun cdv A outer s H vs Q E hr hsp=>⟨_,(ak (bu (i:=1) oK.nd rfl (Or.inl rfl) (Ln (pv 0) T.dz T.cG (j9 T) (by exact hr.mono (by decide))))
   (ak (bu (i:=2) oK.nd rfl (Or.inl rfl) (aa1 abI (aD (K:=K) (pv 0) rfl) (WM (aD (K:=K) (pv 0) rfl)) (WM (jm zc (aD (K:=K) (pv 0) rfl) (pv 1)))))
   (ak (uE (pv 0) (pv 1) G4)
   (az (aC (pv 2)))))),?_⟩
 obtain⟨r,dx,l,p,lo,xs,m,rfl,h,hlo,hn,hle,hxl,k⟩:=hsp
 refine aN ?_
 refine Gi (aa rfl) h.1 (RV.uZ _) aV fun H1 s1=>?_
 refine⟨r,dx,l,p,lo,xs,_,rfl,h.up s1,hlo,hn,fun H2 k2 h2=>?_⟩
 (try dsimp only)
 have cp:EvP _ [some (.ref r),some (.int (m:Nat)),none] H2 (IsN H2 (((xs.drop (p+1)).take (p+1+m - (p+1))).map V.int)) :=
  Zx (K:=K) (ta:=j4 K (b8 0) "calls") (tl:=j4 K (b8 0) "place") (th:=tOp (rI0 fun i j=>V.int (i+j)) (j4 K (b8 0) "place") (b8 1)) (a:=p+1) (b:=p+1+m) (b_ (aa rfl) h2.1 T.dz T.jc (RV.O6 _)) h2.2 hlo (b_ (aa rfl) h2.1 T.dz T.dX (RV.A_ _)) ((eY (b_ (aa rfl) h2.1 T.dz T.dX (RV.A_ _)) (aa rfl)).cast (by congr 1)) (by omega) (by omega)
 refine aN (uY cp ?_)
 rintro v H3 s3 ⟨q,rfl,nq,hq⟩
 (try dsimp only)
 have h3:=h2.up s3
 refine aN (FQ (aa rfl) (aa rfl) h3.1 T.dz T.dX (RV.few _) (RV.A_ _) fun H4 k4 e4=>?_)
 (try dsimp only)
 rw[RV.WT]at e4
 refine cI (aa rfl) fun v H5 s5 ev=>?_
 subst ev
 have nqr:q≠r:=fun z=>by rw[z,h2.1]at nq;cases nq
 refine k H5 q ((s1.kp r).trans (k2.trans ((s3.kp r).trans (k4.trans (s5.kp r))))) ((s1.kp r).trans k2 |>.free h.1 nq h2.1) ?_ ⟨?_,s5 _ _ (k4 _ _ h3.2 (h3.ne hlo))⟩
 ·have:=s5 _ _ (k4 _ _ hq nqr)
  rw[this,show p+1+m - (p+1)=m by omega]
 ·rw[s5 _ _ e4]
  rfl
end
end Jq
end
section
set_option Elab.async false
set_option linter.all false
set_option maxRecDepth 100000
set_option maxHeartbeats 1000000
namespace Jq
open PySem PySem.Spec PyProof.Rows L2
theorem list_1{α:Type}{l:List α}(h:l.length=1):∃a,l=[a]:=List.length_eq_one_iff.mp h
theorem list_2{α:Type}{l:List α}(h:l.length=2):∃a b,l=[a,b]:=by
 match l,h with
 |[a,b],_=>exact⟨a,b,rfl⟩
theorem list_3{α:Type}{l:List α}(h:l.length=3):∃a b c,l=[a,b,c]:=by
 match l,h with
 |[a,b,c],_=>exact⟨a,b,c,rfl⟩
theorem J6{s:Vbbhaj.State}{n:Int}{f:Vbbhaj.Job→Vbbhaj.State×Vbbhaj.Ans}(h:∀j,(f j).1=s):(Vbbhaj.onJob s n f).1=s:=by
 unfold Vbbhaj.onJob
 split
 ·rfl
 ·split
  ·rfl
  ·exact h _
theorem T6(s:Vbbhaj.State)(n:Int):(Vbbhaj.step s (.status n)).1=s:=J6 fun _=>rfl
theorem Xw(s:Vbbhaj.State)(n:Int):(Vbbhaj.step s (.tests n)).1=s:=J6 fun _=>rfl
theorem Xh(s:Vbbhaj.State)(n:Int):(Vbbhaj.step s (.after n)).1=s:=J6 fun _=>rfl
theorem Ss(s:Vbbhaj.State):(Vbbhaj.step s .running).1=s:=rfl
theorem VJ(s:Vbbhaj.State):(Vbbhaj.step s .counts).1=s:=rfl
theorem Ly(s:Vbbhaj.State)(n:Int):(Vbbhaj.step s (.initiator n)).1=s:=by
 show(if Vbbhaj.isInit n=false then Vbbhaj.no s 1 else _).1=s
 split<;>rfl
theorem V1(s:Vbbhaj.State)(n:Int):(Vbbhaj.step s (.class_ n)).1=s:=by
 show(if Vbbhaj.isClass n=false then Vbbhaj.no s 1 else _).1=s
 split<;>rfl
theorem Eb{c p h:Int}{b t:List Int}(q:VbbhajNeutral.asked1 [[1,c,p,h],b,t]=true):(b.all fun(z:Int)=>VbbhajNeutral.natural z 8)=true∧b.length≤20000∧t.length≤400:=by
 have q:(VbbhajNeutral.whole64 c&&VbbhajNeutral.whole64 p&&VbbhajNeutral.whole64 h&&(b.all (fun(z:Int)=>VbbhajNeutral.natural z 8)&&decide (b.length≤20000))&&(t.all (fun(z:Int)=>VbbhajNeutral.whole64 z)&&decide (t.length≤400)))=true:=q
 simp only[Bool.and_eq_true,decide_eq_true_eq]at q
 exact⟨q.1.2.1,q.1.2.2,q.2.2⟩
theorem Rq{i:Int}{l:List Int}(q:VbbhajNeutral.asked1 [[11,i],l]=true):l.length≤400:=by
 have q:(VbbhajNeutral.whole64 i&&(l.all (fun(z:Int)=>VbbhajNeutral.whole64 z)&&decide (l.length≤400)))=true:=q
 simp only[Bool.and_eq_true,decide_eq_true_eq]at q
 exact q.2.2
theorem RZ{i:Int}{l:List Int}(q:VbbhajNeutral.asked1 [[12,i],l]=true):l.length≤400:=by
 have q:(VbbhajNeutral.whole64 i&&(l.all (fun(z:Int)=>VbbhajNeutral.whole64 z)&&decide (l.length≤400)))=true:=q
 simp only[Bool.and_eq_true,decide_eq_true_eq]at q
 exact q.2.2
theorem Hi{c p h:Int}{b t:List Int}(q:(b.all fun(z:Int)=>VbbhajNeutral.natural z 8)=true):VbbhajNeutral.callOf [[1,c,p,h],b,t]=some (.submit c p h (bytesOf b) t):=by
 show(VbbhajNeutral.bytes? b).map _=_
 rw[JR q]
 rfl
theorem adx{b:List Int}(q:(b.all fun(z:Int)=>VbbhajNeutral.natural z 8)=true):okB b:=fun x hx=>by
 have:=List.all_eq_true.mp q x hx
 unfold VbbhajNeutral.natural at this
 rw[Bool.and_eq_true,decide_eq_true_eq,decide_eq_true_eq]at this
 exact this
section
variable {P:Program}{w:World}{K:PySem.W.Frag}{mg:Str→Option Value}{base:Heap}
variable {σ:St}{H:Hp}{ta tb tc td:TE}{a:Addr}{j:Vbbhaj.Job}{A:Ad}{s:Vbbhaj.State}{T:Txt K mg}{X:Addr→Prop}{D:Ends}
theorem Done.pre{H H':Hp}{x:Vbbhaj.State×Vbbhaj.Ans}{Q:VK}(d:Done T X H A x Q)(s:aY H H'):Done T X H' A x Q:=fun v H'' A' f=>d v H'' A' (s.fix.trans f)
structure Hx(T:Txt K mg)(X:Addr→Prop)(H:Hp)(A:Ad)(s:Vbbhaj.State)(p:Int)(ns:List Int)(rws:List (Addr×List Int))(ln:Addr)(Q:VK):Prop where
 hx:RX T X H A s
 iv:Inv s
 ln:H ln=some (.lst (ns.map V.int))
 sh:PyVbbhaj.shape p=some (ns.length,rws.length)
 as:VbbhajNeutral.asked1 ((p::ns)::rws.map (·.2))=true
 d:∀c,VbbhajNeutral.callOf ((p::ns)::rws.map (·.2))=some c→Done T X H A (Vbbhaj.step s c) Q
theorem Hx.up{H H':Hp}{p:Int}{ns:List Int}{rws:List (Addr×List Int)}{ln:Addr}{Q:VK}(h:Hx T X H A s p ns rws ln Q)(q:aY H H'):Hx T X H' A s p ns rws ln Q:=⟨h.hx.up q,h.iv,q _ _ h.ln,h.sh,h.as,fun c e=>(h.d c e).pre q⟩
theorem Hx.cut{p:Int}{ns:List Int}{rws:List (Addr×List Int)}{ln:Addr}{Q:VK}{n k:Nat}(h:Hx T X H A s p ns rws ln Q)(e:PyVbbhaj.shape p=some (n,k)):ns.length=n∧rws.length=k:=by
 have:=h.sh.symm.trans e
 exact⟨congrArg Prod.fst (Option.some.inj this),congrArg Prod.snd (Option.some.inj this)⟩
def Dt(H:Hp)(lr:Addr)(rws:List (Addr×List Int)):Prop:=H lr=some (.lst (rws.map fun r=>V.ref r.1))∧∀r∈rws,H r.1=some (.lst (r.2.map V.int))
theorem Dt.up{H H':Hp}{lr:Addr}{rws:List (Addr×List Int)}(h:Dt H lr rws)(s:aY H H'):Dt H' lr rws:=⟨s _ _ h.1,fun r hr=>s _ _ (h.2 r hr)⟩
def aa9(T:Txt K mg)(lo hi:Int):Sp:=fun vs H Q _=>∃X A s p ns rws ln,vs=[.ref A.b,.int p,.ref ln]∧(lo≤p∧p≤hi)∧Hx T X H A s p ns rws ln Q
def aaC(T:Txt K mg)(lo hi:Int):Sp:=fun vs H Q _=>∃X A s p ns rws ln lr,vs=[.ref A.b,.int p,.ref ln,.ref lr]∧(lo≤p∧p≤hi)∧Hx T X H A s p ns rws ln Q∧Dt H lr rws
theorem HW{mk:Int→Vbbhaj.Call}{ln:Addr}{n:Int}(v0:σ[0]?=some (some (.ref A.b)))(v2:σ[2]?=some (some (.ref ln)))(hl:H ln=some (.lst ([n].map V.int)))(hx:RX T X H A s)(iv:Inv s)(d:Done T X H A (Vbbhaj.step s (mk n)) D.rt) :
  JT (fG (spC T (dI mk)) [] E0 (bw (b8 0) (bw (tOp (rIx K) (b8 2) (tC (.int 0))) eV))) D σ H :=
 mF (aB (aa v0) (aB (qG ((aa v2).toL hl) aJ rfl) aV)) fun H' s'=>⟨X,A,s,mk n,[.int n],rfl,⟨n,rfl,rfl⟩,hx.up s',iv,d.pre s'⟩
theorem adN{mk:Int→Int→Vbbhaj.Call}{ln:Addr}{n m:Int}(v0:σ[0]?=some (some (.ref A.b)))(v2:σ[2]?=some (some (.ref ln)))(hl:H ln=some (.lst ([n,m].map V.int)))(hx:RX T X H A s)(iv:Inv s)(d:Done T X H A (Vbbhaj.step s (mk n m)) D.rt) :
  JT (fG (spC T (dII mk)) [] E0 (bw (b8 0) (bw (tOp (rIx K) (b8 2) (tC (.int 0))) (bw (tOp (rIx K) (b8 2) (tC (.int 1))) eV)))) D σ H :=
 mF (aB (aa v0) (aB (qG ((aa v2).toL hl) aJ rfl) (aB (qG ((aa v2).toL hl) aJ rfl) aV))) fun H' s'=>⟨X,A,s,mk n m,_,rfl,⟨n,m,rfl,rfl⟩,hx.up s',iv,d.pre s'⟩
theorem U3{mk:Int→Int→Int→Vbbhaj.Call}{ln:Addr}{n m k:Int}(v0:σ[0]?=some (some (.ref A.b)))(v2:σ[2]?=some (some (.ref ln)))(hl:H ln=some (.lst ([n,m,k].map V.int)))(hx:RX T X H A s)(iv:Inv s)(d:Done T X H A (Vbbhaj.step s (mk n m k)) D.rt) :
  JT (fG (spC T (aba mk)) [] E0 (bw (b8 0) (bw (tOp (rIx K) (b8 2) (tC (.int 0))) (bw (tOp (rIx K) (b8 2) (tC (.int 1))) (bw (tOp (rIx K) (b8 2) (tC (.int 2))) eV))))) D σ H :=
 mF (aB (aa v0) (aB (qG ((aa v2).toL hl) aJ rfl) (aB (qG ((aa v2).toL hl) aJ rfl) (aB (qG ((aa v2).toL hl) aJ rfl) aV)))) fun H' s'=>⟨X,A,s,mk n m k,_,rfl,⟨n,m,k,rfl,rfl⟩,hx.up s',iv,d.pre s'⟩
theorem ab5{mk:Int→List Int→Vbbhaj.Call}{ln lr:Addr}{n:Int}{r:Addr×List Int}(v0:σ[0]?=some (some (.ref A.b)))(v2:σ[2]?=some (some (.ref ln)))(v3:σ[3]?=some (some (.ref lr)))(hl:H ln=some (.lst ([n].map V.int)))(hr:Dt H lr [r])(hx:RX T X H A s)(iv:Inv s)(hz:r.2.length≤400)(d:Done T X H A (Vbbhaj.step s (mk n r.2)) D.rt) :
  JT (fG (spC T (dIL mk)) [] E0 (bw (b8 0) (bw (tOp (rIx K) (b8 2) (tC (.int 0))) (bw (tOp (rIx K) (b8 3) (tC (.int 0))) eV)))) D σ H :=
 mF (aB (aa v0) (aB (qG ((aa v2).toL hl) aJ rfl) (aB (qG ((aa v3).toL hr.1) aJ rfl) aV))) fun H' s'=>⟨X,A,s,mk n r.2,_,rfl,⟨n,r.1,r.2,rfl,s' _ _ (hr.2 r List.mem_cons_self),hz,rfl⟩,hx.up s',iv,d.pre s'⟩
theorem ael{ln lr:Addr}{x y z:Int}{r t:Addr×List Int}(v0:σ[0]?=some (some (.ref A.b)))(v2:σ[2]?=some (some (.ref ln)))(v3:σ[3]?=some (some (.ref lr)))(hl:H ln=some (.lst ([x,y,z].map V.int)))(hr:Dt H lr [r,t])(hx:RX T X H A s)(iv:Inv s)(hz:(r.2.all fun(z:Int)=>VbbhajNeutral.natural z 8)=true∧r.2.length≤20000∧t.2.length≤400)(d:Done T X H A (Vbbhaj.step s (.submit x y z (bytesOf r.2) t.2)) D.rt) :
  JT (fG (spC T dS) [] E0 (bw (b8 0) (bw (tOp (rIx K) (b8 2) (tC (.int 0))) (bw (tOp (rIx K) (b8 2) (tC (.int 1))) (bw (tOp (rIx K) (b8 2) (tC (.int 2))) (bw (tOp (rIx K) (b8 3) (tC (.int 0))) (bw (tOp (rIx K) (b8 3) (tC (.int 1))) eV))))))) D σ H :=
 mF (aB (aa v0) (aB (qG ((aa v2).toL hl) aJ rfl) (aB (qG ((aa v2).toL hl) aJ rfl) (aB (qG ((aa v2).toL hl) aJ rfl) (aB (qG ((aa v3).toL hr.1) aJ rfl) (aB (qG ((aa v3).toL hr.1) aJ rfl) aV)))))) fun H' s' =>
  ⟨X,A,s,_,_,rfl,⟨x,y,z,r.1,t.1,r.2,t.2,rfl,s' _ _ (hr.2 r List.mem_cons_self),by omega,s' _ _ (hr.2 t (List.mem_cons_of_mem _ List.mem_cons_self)),hz.2.2,adx hz.1,rfl⟩,hx.up s',iv,d.pre s'⟩
theorem Q6{mk:Int→Vbbhaj.Call}{ln:Addr}{n:Int}(v0:σ[0]?=some (some (.ref A.b)))(v2:σ[2]?=some (some (.ref ln)))(hl:H ln=some (.lst ([n].map V.int)))(hx:RX T X H A s)(iv:Inv s)(hs:(Vbbhaj.step s (mk n)).1=s)(d:Done T X H A (Vbbhaj.step s (mk n)) D.rt) :
  JT (fG (ro (gQ1 T mk)) [] E0 (bw (b8 0) (bw (tOp (rIx K) (b8 2) (tC (.int 0))) eV))) D σ H :=
 cI (nH (G:=gQ1 T mk) (R:=IsL (wu (Vbbhaj.step s (mk n)).2)) (aB (aa v0) (aB (qG ((aa v2).toL hl) aJ rfl) aV)) fun H1 s1=>⟨A,s,n,rfl,hx.rep.up s1,iv,rfl⟩) fun v H' s' l=>d v H' A s'.fix rfl (by rw[hs];exact hx.up s') l
theorem ach{c:Vbbhaj.Call}(v0:σ[0]?=some (some (.ref A.b)))(hx:RX T X H A s)(iv:Inv s)(hs:(Vbbhaj.step s c).1=s)(d:Done T X H A (Vbbhaj.step s c) D.rt) :
  JT (fG (ro (gQ0 T c)) [] E0 (bw (b8 0) eV)) D σ H :=
 cI (nH (G:=gQ0 T c) (R:=IsL (wu (Vbbhaj.step s c).2)) (aB (aa v0) aV) fun H1 s1=>⟨A,s,rfl,hx.rep.up s1,iv,rfl⟩) fun v H' s' l=>d v H' A s'.fix rfl (by rw[hs];exact hx.up s') l
theorem El(T:Txt K mg):bG P w K mg base CX0 6 T.gC.f T.gC.fd ["board","call","numbers","rows"] (aaC T 0 7):=by
 refine T.gC.F.ok Ep (fun vs H Q E ⟨_,_,_,_,_,_,_,_,e,_⟩=>by rw[e];rfl) fun cdv A outer s H vs Q E hr hsp=>⟨_,(ak (a_ (aR dm (pv 1) (bz T.QM rfl) (aQ _)) (az (aC (aK T.Ao (aaZ T) (by exact hr.mono (by decide)) rfl (aj (pv 0) (aj (cZ (bA (K:=K)) (pv 2) aH (fun _ _=>rfl)) (aj (cZ (bA (K:=K)) (pv 2) aH (fun _ _=>rfl)) (aj (cZ (bA (K:=K)) (pv 2) aH (fun _ _=>rfl)) aq))))))) aL)
   (ak (a_ (aR dm (pv 1) (bz T.Kr rfl) (aQ _)) (az (aC (aK T.wW (Yn T) (by exact hr.mono (by decide)) rfl (aj (pv 0) (aj (cZ (bA (K:=K)) (pv 2) aH (fun _ _=>rfl)) (aj (cZ (bA (K:=K)) (pv 2) aH (fun _ _=>rfl)) (aj (cZ (bA (K:=K)) (pv 2) aH (fun _ _=>rfl)) (aj (cZ (bA (K:=K)) (pv 3) aH (fun _ _=>rfl)) (aj (cZ (bA (K:=K)) (pv 3) aH (fun _ _=>rfl)) aq))))))))) aL)
   (ak (a_ (aR dm (pv 1) (bz T.T4 rfl) (aQ _)) (az (aC (aK T.FZ (abX T) (by exact hr.mono (by decide)) rfl (aj (pv 0) (aj (cZ (bA (K:=K)) (pv 2) aH (fun _ _=>rfl)) aq))))) aL)
   (ak (a_ (aR dm (pv 1) (bz T.Py rfl) (aQ _)) (az (aC (aK T.Am (Y_ T) (by exact hr.mono (by decide)) rfl (aj (pv 0) (aj (cZ (bA (K:=K)) (pv 2) aH (fun _ _=>rfl)) aq))))) aL)
   (ak (a_ (aR dm (pv 1) (bz T.Jk rfl) (aQ _)) (az (aC (aK T.wU (Yy T) (by exact hr.mono (by decide)) rfl (aj (pv 0) (aj (cZ (bA (K:=K)) (pv 2) aH (fun _ _=>rfl)) (aj (cZ (bA (K:=K)) (pv 2) aH (fun _ _=>rfl)) (aj (cZ (bA (K:=K)) (pv 2) aH (fun _ _=>rfl)) aq))))))) aL)
   (ak (a_ (aR dm (pv 1) (bz T.K6 rfl) (aQ _)) (az (aC (aK T.w6 (Xq T) (by exact hr.mono (by decide)) rfl (aj (pv 0) (aj (cZ (bA (K:=K)) (pv 2) aH (fun _ _=>rfl)) aq))))) aL)
   (ak (a_ (aR dm (pv 1) (bz T.J_ rfl) (aQ _)) (az (aC (aK T.xF (Xp T) (by exact hr.mono (by decide)) rfl (aj (pv 0) (aj (cZ (bA (K:=K)) (pv 2) aH (fun _ _=>rfl)) aq))))) aL)
   (az (aC (aK T.Fv (abL T) (by exact hr.mono (by decide)) rfl (aj (pv 0) (aj (cZ (bA (K:=K)) (pv 2) aH (fun _ _=>rfl)) aq)))))))))))),?_⟩
 obtain⟨X,A,s,p,ns,rws,ln,lr,rfl,⟨hlo,hhi⟩,h,hrw⟩:=hsp
 refine cU (aP (bY (aa rfl) aJ)) (fun q H1 s1=>?_) fun q0 H10 s1=>?_
 ·have q:p=0:=of_decide_eq_true q
  subst q
  replace h:=h.up s1
  replace hrw:=hrw.up s1
  obtain⟨e1,e2⟩:=h.cut (n:=3) (k:=0) rfl
  obtain⟨x,y,z,rfl⟩:=list_3 e1
  obtain rfl:=List.length_eq_zero_iff.mp e2
  exact U3 rfl rfl h.ln h.hx h.iv (h.d _ rfl)
 replace h:=h.up s1
 replace hrw:=hrw.up s1
 have q0:¬p=0:=of_decide_eq_false q0
 clear s1
 refine cU (aP (bY (aa rfl) aJ)) (fun q H1 s1=>?_) fun q1 H11 s1=>?_
 ·have q:p=1:=of_decide_eq_true q
  subst q
  replace h:=h.up s1
  replace hrw:=hrw.up s1
  obtain⟨e1,e2⟩:=h.cut (n:=3) (k:=2) rfl
  obtain⟨x,y,z,rfl⟩:=list_3 e1
  obtain⟨r,t,rfl⟩:=list_2 e2
  exact ael rfl rfl rfl h.ln hrw h.hx h.iv (Eb h.as) (h.d _ (Hi (Eb h.as).1))
 replace h:=h.up s1
 replace hrw:=hrw.up s1
 have q1:¬p=1:=of_decide_eq_false q1
 clear s1
 refine cU (aP (bY (aa rfl) aJ)) (fun q H1 s1=>?_) fun q2 H12 s1=>?_
 ·have q:p=2:=of_decide_eq_true q
  subst q
  replace h:=h.up s1
  replace hrw:=hrw.up s1
  obtain⟨e1,e2⟩:=h.cut (n:=1) (k:=0) rfl
  obtain⟨x,rfl⟩:=list_1 e1
  obtain rfl:=List.length_eq_zero_iff.mp e2
  exact HW rfl rfl h.ln h.hx h.iv (h.d _ rfl)
 replace h:=h.up s1
 replace hrw:=hrw.up s1
 have q2:¬p=2:=of_decide_eq_false q2
 clear s1
 refine cU (aP (bY (aa rfl) aJ)) (fun q H1 s1=>?_) fun q3 H13 s1=>?_
 ·have q:p=3:=of_decide_eq_true q
  subst q
  replace h:=h.up s1
  replace hrw:=hrw.up s1
  obtain⟨e1,e2⟩:=h.cut (n:=1) (k:=0) rfl
  obtain⟨x,rfl⟩:=list_1 e1
  obtain rfl:=List.length_eq_zero_iff.mp e2
  exact HW rfl rfl h.ln h.hx h.iv (h.d _ rfl)
 replace h:=h.up s1
 replace hrw:=hrw.up s1
 have q3:¬p=3:=of_decide_eq_false q3
 clear s1
 refine cU (aP (bY (aa rfl) aJ)) (fun q H1 s1=>?_) fun q4 H14 s1=>?_
 ·have q:p=4:=of_decide_eq_true q
  subst q
  replace h:=h.up s1
  replace hrw:=hrw.up s1
  obtain⟨e1,e2⟩:=h.cut (n:=3) (k:=0) rfl
  obtain⟨x,y,z,rfl⟩:=list_3 e1
  obtain rfl:=List.length_eq_zero_iff.mp e2
  exact U3 rfl rfl h.ln h.hx h.iv (h.d _ rfl)
 replace h:=h.up s1
 replace hrw:=hrw.up s1
 have q4:¬p=4:=of_decide_eq_false q4
 clear s1
 refine cU (aP (bY (aa rfl) aJ)) (fun q H1 s1=>?_) fun q5 H15 s1=>?_
 ·have q:p=5:=of_decide_eq_true q
  subst q
  replace h:=h.up s1
  replace hrw:=hrw.up s1
  obtain⟨e1,e2⟩:=h.cut (n:=1) (k:=0) rfl
  obtain⟨x,rfl⟩:=list_1 e1
  obtain rfl:=List.length_eq_zero_iff.mp e2
  exact HW rfl rfl h.ln h.hx h.iv (h.d _ rfl)
 replace h:=h.up s1
 replace hrw:=hrw.up s1
 have q5:¬p=5:=of_decide_eq_false q5
 clear s1
 refine cU (aP (bY (aa rfl) aJ)) (fun q H1 s1=>?_) fun q6 H16 s1=>?_
 ·have q:p=6:=of_decide_eq_true q
  subst q
  replace h:=h.up s1
  replace hrw:=hrw.up s1
  obtain⟨e1,e2⟩:=h.cut (n:=1) (k:=0) rfl
  obtain⟨x,rfl⟩:=list_1 e1
  obtain rfl:=List.length_eq_zero_iff.mp e2
  exact HW rfl rfl h.ln h.hx h.iv (h.d _ rfl)
 replace h:=h.up s1
 replace hrw:=hrw.up s1
 have q6:¬p=6:=of_decide_eq_false q6
 clear s1
 have q:p=7:=by omega
 subst q
 obtain⟨e1,e2⟩:=h.cut (n:=1) (k:=0) rfl
 obtain⟨x,rfl⟩:=list_1 e1
 obtain rfl:=List.length_eq_zero_iff.mp e2
 exact HW rfl rfl h.ln h.hx h.iv (h.d _ rfl)
theorem zX(T:Txt K mg):bG P w K mg base CX0 4 T.eO.f T.eO.fd ["board","call","numbers"] (aa9 T 8 10):=by
 refine T.eO.F.ok zH (fun vs H Q E ⟨_,_,_,_,_,_,_,e,_⟩=>by rw[e];rfl) fun cdv A outer s H vs Q E hr hsp=>⟨_,(ak (a_ (aR dm (pv 1) (bz T.QJ rfl) (aQ _)) (az (aC (aK T.jR (Jr T) (by exact hr.mono (by decide)) rfl (aj (pv 0) (aj (cZ (bA (K:=K)) (pv 2) aH (fun _ _=>rfl)) (aj (cZ (bA (K:=K)) (pv 2) aH (fun _ _=>rfl)) aq)))))) aL)
   (ak (a_ (aR dm (pv 1) (bz T.Qh rfl) (aQ _)) (az (aC (aK T.jO (Jl T) (by exact hr.mono (by decide)) rfl (aj (pv 0) (aj (cZ (bA (K:=K)) (pv 2) aH (fun _ _=>rfl)) aq))))) aL)
   (az (aC (aK T.mL (Lz T) (by exact hr.mono (by decide)) rfl (aj (pv 0) (aj (cZ (bA (K:=K)) (pv 2) aH (fun _ _=>rfl)) aq))))))),?_⟩
 obtain⟨X,A,s,p,ns,rws,ln,rfl,⟨hlo,hhi⟩,h⟩:=hsp
 refine cU (aP (bY (aa rfl) aJ)) (fun q H1 s1=>?_) fun q0 H10 s1=>?_
 ·have q:p=8:=of_decide_eq_true q
  subst q
  replace h:=h.up s1
  obtain⟨e1,e2⟩:=h.cut (n:=2) (k:=0) rfl
  obtain⟨x,y,rfl⟩:=list_2 e1
  obtain rfl:=List.length_eq_zero_iff.mp e2
  exact adN rfl rfl h.ln h.hx h.iv (h.d _ rfl)
 replace h:=h.up s1
 have q0:¬p=8:=of_decide_eq_false q0
 clear s1
 refine cU (aP (bY (aa rfl) aJ)) (fun q H1 s1=>?_) fun q1 H11 s1=>?_
 ·have q:p=9:=of_decide_eq_true q
  subst q
  replace h:=h.up s1
  obtain⟨e1,e2⟩:=h.cut (n:=1) (k:=0) rfl
  obtain⟨x,rfl⟩:=list_1 e1
  obtain rfl:=List.length_eq_zero_iff.mp e2
  exact HW rfl rfl h.ln h.hx h.iv (h.d _ rfl)
 replace h:=h.up s1
 have q1:¬p=9:=of_decide_eq_false q1
 clear s1
 have q:p=10:=by omega
 subst q
 obtain⟨e1,e2⟩:=h.cut (n:=1) (k:=0) rfl
 obtain⟨x,rfl⟩:=list_1 e1
 obtain rfl:=List.length_eq_zero_iff.mp e2
 exact HW rfl rfl h.ln h.hx h.iv (h.d _ rfl)
theorem wN(T:Txt K mg)(L:MT T base):bG P w K mg base CX0 6 T.dg.f T.dg.fd ["board","call","numbers","rows"] (aaC T 11 17):=by
 refine T.dg.F.ok xg (fun vs H Q E ⟨_,_,_,_,_,_,_,_,e,_⟩=>by rw[e];rfl) fun cdv A outer s H vs Q E hr hsp=>⟨_,(ak (a_ (aR dm (pv 1) (bz T.Qm rfl) (aQ _)) (az (aC (aK T.Bh (aa5 T) (by exact hr.mono (by decide)) rfl (aj (pv 0) (aj (cZ (bA (K:=K)) (pv 2) aH (fun _ _=>rfl)) (aj (cZ (bA (K:=K)) (pv 3) aH (fun _ _=>rfl)) aq)))))) aL)
   (ak (a_ (aR dm (pv 1) (bz T.Qg rfl) (aQ _)) (az (aC (aK T.Be (Zd T) (by exact hr.mono (by decide)) rfl (aj (pv 0) (aj (cZ (bA (K:=K)) (pv 2) aH (fun _ _=>rfl)) (aj (cZ (bA (K:=K)) (pv 3) aH (fun _ _=>rfl)) aq)))))) aL)
   (ak (a_ (aR dm (pv 1) (bz T.Qo rfl) (aQ _)) (az (aC (aK T.Az (Y8 T) (by exact hr.mono (by decide)) rfl (aj (pv 0) (aj (cZ (bA (K:=K)) (pv 2) aH (fun _ _=>rfl)) aq))))) aL)
   (ak (a_ (aR dm (pv 1) (bz T.T5 rfl) (aQ _)) (az (aC (aK T.GC (abz T L) (by exact hr.mono (by decide)) rfl (aj (pv 0) (aj (cZ (bA (K:=K)) (pv 2) aH (fun _ _=>rfl)) aq))))) aL)
   (ak (a_ (aR dm (pv 1) (bz T.Vm rfl) (aQ _)) (az (aC (aK T.G6 (abb T L) (by exact hr.mono (by decide)) rfl (aj (pv 0) (aj (cZ (bA (K:=K)) (pv 2) aH (fun _ _=>rfl)) aq))))) aL)
   (ak (a_ (aR dm (pv 1) (bz T.Lj rfl) (aQ _)) (az (aC (aK T.xJ (Yg T) (by exact hr.mono (by decide)) rfl (aj (pv 0) (aj (cZ (bA (K:=K)) (pv 2) aH (fun _ _=>rfl)) (aj (cZ (bA (K:=K)) (pv 2) aH (fun _ _=>rfl)) (aj (cZ (bA (K:=K)) (pv 2) aH (fun _ _=>rfl)) aq))))))) aL)
   (az (aC (aK T.ur (Ud T) (by exact hr.mono (by decide)) rfl (aj (pv 0) (aj (cZ (bA (K:=K)) (pv 2) aH (fun _ _=>rfl)) aq))))))))))),?_⟩
 obtain⟨X,A,s,p,ns,rws,ln,lr,rfl,⟨hlo,hhi⟩,h,hrw⟩:=hsp
 refine cU (aP (bY (aa rfl) aJ)) (fun q H1 s1=>?_) fun q0 H10 s1=>?_
 ·have q:p=11:=of_decide_eq_true q
  subst q
  replace h:=h.up s1
  replace hrw:=hrw.up s1
  obtain⟨e1,e2⟩:=h.cut (n:=1) (k:=1) rfl
  obtain⟨x,rfl⟩:=list_1 e1
  obtain⟨r,rfl⟩:=list_1 e2
  exact ab5 rfl rfl rfl h.ln hrw h.hx h.iv (Rq h.as) (h.d _ rfl)
 replace h:=h.up s1
 replace hrw:=hrw.up s1
 have q0:¬p=11:=of_decide_eq_false q0
 clear s1
 refine cU (aP (bY (aa rfl) aJ)) (fun q H1 s1=>?_) fun q1 H11 s1=>?_
 ·have q:p=12:=of_decide_eq_true q
  subst q
  replace h:=h.up s1
  replace hrw:=hrw.up s1
  obtain⟨e1,e2⟩:=h.cut (n:=1) (k:=1) rfl
  obtain⟨x,rfl⟩:=list_1 e1
  obtain⟨r,rfl⟩:=list_1 e2
  exact ab5 rfl rfl rfl h.ln hrw h.hx h.iv (RZ h.as) (h.d _ rfl)
 replace h:=h.up s1
 replace hrw:=hrw.up s1
 have q1:¬p=12:=of_decide_eq_false q1
 clear s1
 refine cU (aP (bY (aa rfl) aJ)) (fun q H1 s1=>?_) fun q2 H12 s1=>?_
 ·have q:p=13:=of_decide_eq_true q
  subst q
  replace h:=h.up s1
  replace hrw:=hrw.up s1
  obtain⟨e1,e2⟩:=h.cut (n:=1) (k:=0) rfl
  obtain⟨x,rfl⟩:=list_1 e1
  obtain rfl:=List.length_eq_zero_iff.mp e2
  exact HW rfl rfl h.ln h.hx h.iv (h.d _ rfl)
 replace h:=h.up s1
 replace hrw:=hrw.up s1
 have q2:¬p=13:=of_decide_eq_false q2
 clear s1
 refine cU (aP (bY (aa rfl) aJ)) (fun q H1 s1=>?_) fun q3 H13 s1=>?_
 ·have q:p=14:=of_decide_eq_true q
  subst q
  replace h:=h.up s1
  replace hrw:=hrw.up s1
  obtain⟨e1,e2⟩:=h.cut (n:=1) (k:=0) rfl
  obtain⟨x,rfl⟩:=list_1 e1
  obtain rfl:=List.length_eq_zero_iff.mp e2
  exact HW rfl rfl h.ln h.hx h.iv (h.d _ rfl)
 replace h:=h.up s1
 replace hrw:=hrw.up s1
 have q3:¬p=14:=of_decide_eq_false q3
 clear s1
 refine cU (aP (bY (aa rfl) aJ)) (fun q H1 s1=>?_) fun q4 H14 s1=>?_
 ·have q:p=15:=of_decide_eq_true q
  subst q
  replace h:=h.up s1
  replace hrw:=hrw.up s1
  obtain⟨e1,e2⟩:=h.cut (n:=1) (k:=0) rfl
  obtain⟨x,rfl⟩:=list_1 e1
  obtain rfl:=List.length_eq_zero_iff.mp e2
  exact HW rfl rfl h.ln h.hx h.iv (h.d _ rfl)
 replace h:=h.up s1
 replace hrw:=hrw.up s1
 have q4:¬p=15:=of_decide_eq_false q4
 clear s1
 refine cU (aP (bY (aa rfl) aJ)) (fun q H1 s1=>?_) fun q5 H15 s1=>?_
 ·have q:p=16:=of_decide_eq_true q
  subst q
  replace h:=h.up s1
  replace hrw:=hrw.up s1
  obtain⟨e1,e2⟩:=h.cut (n:=3) (k:=0) rfl
  obtain⟨x,y,z,rfl⟩:=list_3 e1
  obtain rfl:=List.length_eq_zero_iff.mp e2
  exact U3 rfl rfl h.ln h.hx h.iv (h.d _ rfl)
 replace h:=h.up s1
 replace hrw:=hrw.up s1
 have q5:¬p=16:=of_decide_eq_false q5
 clear s1
 have q:p=17:=by omega
 subst q
 obtain⟨e1,e2⟩:=h.cut (n:=1) (k:=0) rfl
 obtain⟨x,rfl⟩:=list_1 e1
 obtain rfl:=List.length_eq_zero_iff.mp e2
 exact HW rfl rfl h.ln h.hx h.iv (h.d _ rfl)
theorem DG(T:Txt K mg)(L:MT T base):bG P w K mg base CX0 6 T.fO.f T.fO.fd ["board","call","numbers"] (aa9 T 18 25):=by
 refine T.fO.F.ok CN (fun vs H Q E ⟨_,_,_,_,_,_,_,e,_⟩=>by rw[e];rfl) fun cdv A outer s H vs Q E hr hsp=>⟨_,(ak (a_ (aR dm (pv 1) (bz T.Qy rfl) (aQ _)) (az (aC (aK T.fJ (LC T L) (by exact hr.mono (by decide)) rfl (aj (pv 0) (aj (cZ (bA (K:=K)) (pv 2) aH (fun _ _=>rfl)) aq))))) aL)
   (ak (a_ (aR dm (pv 1) (bz T.J5 rfl) (aQ _)) (az (aC (aK T.jP (Jw T) (by exact hr.mono (by decide)) rfl (aj (pv 0) (aj (cZ (bA (K:=K)) (pv 2) aH (fun _ _=>rfl)) aq))))) aL)
   (ak (a_ (aR dm (pv 1) (bz T.Qn rfl) (aQ _)) (az (aC (aK T.mQ (LK T) (by exact hr.mono (by decide)) rfl (aj (pv 0) (aj (cZ (bA (K:=K)) (pv 2) aH (fun _ _=>rfl)) aq))))) aL)
   (ak (a_ (aR dm (pv 1) (bz T.PX rfl) (aQ _)) (az (aC (aK T.lZ (Mm T) (by exact hr.mono (by decide)) rfl (aj (pv 0) (aj (cZ (bA (K:=K)) (pv 2) aH (fun _ _=>rfl)) aq))))) aL)
   (ak (a_ (aR dm (pv 1) (bz T.uP rfl) (aQ _)) (az (aC (aK T.jh (HQ T) (by exact hr.mono (by decide)) rfl (aj (pv 0) aq)))) aL)
   (ak (a_ (aR dm (pv 1) (bz T.Jv rfl) (aQ _)) (az (aC (aK T.jT (Jx T) (by exact hr.mono (by decide)) rfl (aj (pv 0) aq)))) aL)
   (ak (a_ (aR dm (pv 1) (bz T.zp rfl) (aQ _)) (az (aC (aK T.gD (Fo T) (by exact hr.mono (by decide)) rfl (aj (pv 0) (aj (cZ (bA (K:=K)) (pv 2) aH (fun _ _=>rfl)) aq))))) aL)
   (az (aC (aK T.mJ (M6 T) (by exact hr.mono (by decide)) rfl (aj (pv 0) (aj (cZ (bA (K:=K)) (pv 2) aH (fun _ _=>rfl)) aq)))))))))))),?_⟩
 obtain⟨X,A,s,p,ns,rws,ln,rfl,⟨hlo,hhi⟩,h⟩:=hsp
 refine cU (aP (bY (aa rfl) aJ)) (fun q H1 s1=>?_) fun q0 H10 s1=>?_
 ·have q:p=18:=of_decide_eq_true q
  subst q
  replace h:=h.up s1
  obtain⟨e1,e2⟩:=h.cut (n:=1) (k:=0) rfl
  obtain⟨x,rfl⟩:=list_1 e1
  obtain rfl:=List.length_eq_zero_iff.mp e2
  exact HW rfl rfl h.ln h.hx h.iv (h.d _ rfl)
 replace h:=h.up s1
 have q0:¬p=18:=of_decide_eq_false q0
 clear s1
 refine cU (aP (bY (aa rfl) aJ)) (fun q H1 s1=>?_) fun q1 H11 s1=>?_
 ·have q:p=19:=of_decide_eq_true q
  subst q
  replace h:=h.up s1
  obtain⟨e1,e2⟩:=h.cut (n:=1) (k:=0) rfl
  obtain⟨x,rfl⟩:=list_1 e1
  obtain rfl:=List.length_eq_zero_iff.mp e2
  exact Q6 rfl rfl h.ln h.hx h.iv (T6 s x) (h.d _ rfl)
 replace h:=h.up s1
 have q1:¬p=19:=of_decide_eq_false q1
 clear s1
 refine cU (aP (bY (aa rfl) aJ)) (fun q H1 s1=>?_) fun q2 H12 s1=>?_
 ·have q:p=20:=of_decide_eq_true q
  subst q
  replace h:=h.up s1
  obtain⟨e1,e2⟩:=h.cut (n:=1) (k:=0) rfl
  obtain⟨x,rfl⟩:=list_1 e1
  obtain rfl:=List.length_eq_zero_iff.mp e2
  exact Q6 rfl rfl h.ln h.hx h.iv (Xw s x) (h.d _ rfl)
 replace h:=h.up s1
 have q2:¬p=20:=of_decide_eq_false q2
 clear s1
 refine cU (aP (bY (aa rfl) aJ)) (fun q H1 s1=>?_) fun q3 H13 s1=>?_
 ·have q:p=21:=of_decide_eq_true q
  subst q
  replace h:=h.up s1
  obtain⟨e1,e2⟩:=h.cut (n:=1) (k:=0) rfl
  obtain⟨x,rfl⟩:=list_1 e1
  obtain rfl:=List.length_eq_zero_iff.mp e2
  exact Q6 rfl rfl h.ln h.hx h.iv (Xh s x) (h.d _ rfl)
 replace h:=h.up s1
 have q3:¬p=21:=of_decide_eq_false q3
 clear s1
 refine cU (aP (bY (aa rfl) aJ)) (fun q H1 s1=>?_) fun q4 H14 s1=>?_
 ·have q:p=22:=of_decide_eq_true q
  subst q
  replace h:=h.up s1
  obtain⟨e1,e2⟩:=h.cut (n:=0) (k:=0) rfl
  obtain rfl:=List.length_eq_zero_iff.mp e1
  obtain rfl:=List.length_eq_zero_iff.mp e2
  exact ach rfl h.hx h.iv (Ss s) (h.d _ rfl)
 replace h:=h.up s1
 have q4:¬p=22:=of_decide_eq_false q4
 clear s1
 refine cU (aP (bY (aa rfl) aJ)) (fun q H1 s1=>?_) fun q5 H15 s1=>?_
 ·have q:p=23:=of_decide_eq_true q
  subst q
  replace h:=h.up s1
  obtain⟨e1,e2⟩:=h.cut (n:=0) (k:=0) rfl
  obtain rfl:=List.length_eq_zero_iff.mp e1
  obtain rfl:=List.length_eq_zero_iff.mp e2
  exact ach rfl h.hx h.iv (VJ s) (h.d _ rfl)
 replace h:=h.up s1
 have q5:¬p=23:=of_decide_eq_false q5
 clear s1
 refine cU (aP (bY (aa rfl) aJ)) (fun q H1 s1=>?_) fun q6 H16 s1=>?_
 ·have q:p=24:=of_decide_eq_true q
  subst q
  replace h:=h.up s1
  obtain⟨e1,e2⟩:=h.cut (n:=1) (k:=0) rfl
  obtain⟨x,rfl⟩:=list_1 e1
  obtain rfl:=List.length_eq_zero_iff.mp e2
  exact Q6 rfl rfl h.ln h.hx h.iv (Ly s x) (h.d _ rfl)
 replace h:=h.up s1
 have q6:¬p=24:=of_decide_eq_false q6
 clear s1
 have q:p=25:=by omega
 subst q
 obtain⟨e1,e2⟩:=h.cut (n:=1) (k:=0) rfl
 obtain⟨x,rfl⟩:=list_1 e1
 obtain rfl:=List.length_eq_zero_iff.mp e2
 exact Q6 rfl rfl h.ln h.hx h.iv (V1 s x) (h.d _ rfl)
end
end Jq
end
section
set_option Elab.async false
set_option linter.all false
set_option maxRecDepth 100000
set_option maxHeartbeats 1000000
namespace Jq
open PySem PySem.Spec PyProof.Rows L2
theorem zq{p:Int}{x:Nat×Nat}(h:PyVbbhaj.shape p=some x):0≤p∧p≤25:=by
 by_cases hr:0≤p∧p≤25
 ·exact hr
 ·exfalso
  unfold PyVbbhaj.shape at h
  repeat rw[if_neg (by omega)]at h
  cases h
theorem Q_{p:Int}{n k:Nat}(h:PyVbbhaj.shape p=some (n,k)):n≤3∧k≤2:=by
 have hr:=zq h
 have:p=0∨p=1∨p=2∨p=3∨p=4∨p=5∨p=6∨p=7∨p=8∨p=9∨p=10∨p=11∨p=12∨p=13∨p=14∨p=15∨p=16∨p=17∨p=18∨p=19∨p=20∨p=21∨p=22∨p=23∨p=24∨p=25:=by omega
 rcases this with e|e|e|e|e|e|e|e|e|e|e|e|e|e|e|e|e|e|e|e|e|e|e|e|e|e<;>subst e<;>(cases h;exact⟨by decide,by decide⟩)
theorem S7:∀{k:Nat} {r t:List Int} {xs:List (List Int)},PyFlat.rows k r=some (xs,t)→xs.length=k
 |0,r,t,xs,h=>by rw[(NZ h).1];rfl
 |k+1,r,t,xs,h=>by
  obtain⟨m,r',xs',_,_,_,e,h'⟩:=M9 h
  rw[e,List.length_cons,S7 h']
theorem drop_cons{xs r:List Int}{p:Nat}{q:Int}(h:xs.drop p=q::r):xs[p]?=some q∧xs.drop (p+1)=r∧p<xs.length:=by
 have hl:p<xs.length:=by
  have:=congrArg List.length h
  rw[List.length_drop,List.length_cons]at this
  omega
 rw[List.drop_eq_getElem_cons hl]at h
 injection h with h1 h2
 exact⟨by rw[List.getElem?_eq_getElem hl,h1],h2,hl⟩
section
variable {P:Program}{w:World}{K:PySem.W.Frag}{mg:Str→Option Value}{base:Heap}
variable {σ:St}{H:Hp}{ta tb tc td:TE}{a:Addr}{j:Vbbhaj.Job}{A:Ad}{s:Vbbhaj.State}{T:Txt K mg}{X:Addr→Prop}{D:Ends}
theorem ab6{t:TA}{g:TG}{tt:TT}{te:TE}{vs:List Nat}{Q:VK}{n:Nat}(ha:Bt t σ H [.int (n:Nat)])(hn:n≤20000)
  (k:∀H1,aY H H1→∀Dn,H1 Dn=none→∃Pv:Nat→Hp→Prop,Pv 0 (upd H1 Dn (.lst []))∧(∀i H2,i<n→Pv i H2→g (.int (0+(i:Nat))) (wipe σ vs) H2 fun σ2 H3=>wipe σ2 vs=wipe σ vs∧tt σ2 H3 fun b H4 =>
   if b=true then te σ2 H4 fun y H5=>∃acc,H5 Dn=some (.lst acc)∧acc.length<sizeLine∧Pv (i+1) (upd H5 Dn (.lst (acc++[y])))else Pv (i+1) H4)∧∀H2,Pv n H2→Q (.ref Dn) H2):tLc (Zu t) g tt te vs σ H Q:=by
 unfold tLc Zu
 refine EvA.use ha fun us H1 s1 e=>?_
 subst e
 refine⟨(n:Nat),rfl,by omega,by omega,fun Dn hDn=>?_⟩
 obtain⟨Pv,h0,hs,hd⟩:=k H1 s1 Dn hDn
 refine Rh (n:=n) (Qd:=fun H'=>Q (.ref Dn) H') Pv h0 (fun H'=>?_) (fun i H' hi=>?_) (fun i H2 x H3 hi hp ⟨e1,e2⟩=>?_) hd
 ·show((n:Nat):Int).toNat≤n;omega
 ·show i<((n:Nat):Int).toNat;omega
 ·subst e1
  subst e2
  exact hs i _ hi hp
def aeb(r:Addr)(H H':Hp):Prop:=∀b o,H b=some o→Ql o=true→b≠r→H' b=some o
theorem acB(v:RV)(C dx:Addr):Ql (.ins C dx v.fs)=true:=by
 show(("calls" : Str)==("calls" : Str))=true
 exact beq_self_eq_true _
def adg(T:Txt K mg):Sp:=fun vs H Q _=>∃X A s r dx l p lo xs cl t c,vs=[.ref A.b,.ref r]∧RX T X H A s∧Inv s∧X r∧Bx T H r dx l p lo∧RL lo xs∧xs.length≤20000∧PyFlat.call PyVbbhaj.shape (xs.drop p)=some (cl,t)∧VbbhajNeutral.asked1 cl=true∧VbbhajNeutral.callOf cl=some c ∧
 ∀v H' A' p',aeb r H H'→A'.b=A.b→Bx T H' r dx l p' lo→xs.drop p'=t→RX T X H' A' (Vbbhaj.step s c).1→IsL (wu (Vbbhaj.step s c).2) v H'→Q v H'
theorem J4(T:Txt K mg)(L:MT T base):bG P w K mg base CX0 7 T.jU.f T.jU.fd ["board","reader"] (adg T):=by
 refine T.jU.F.ok gK (fun vs H Q E ⟨_,_,_,_,_,_,_,_,_,_,_,_,e,_⟩=>by rw[e];rfl) fun cdv A outer s H vs Q E hr hsp=>?_
 refine⟨_,(ak (bu (i:=2) gK.nd rfl (Or.inl rfl) (Ln (pv 1) T.dz T.cG (j9 T) (by exact hr.mono (by decide))))
   (ak (bu (i:=3) gK.nd rfl (Or.inl rfl) (Xo (K:=K) L.sh (pv 2)))
   (ak (xH (i:=4) (own:=[("turn",6)]) rfl gK.nd rfl rfl (Bj rfl rfl rfl (by decide +kernel)) (M8 rfl T.xT (aj (cZ (bA (K:=K)) (pv 3) aH (fun _ _=>rfl)) aq)) (cH (by show qF ["board","reader","call","shape","numbers","rows","turn"] (aA lu) _ _=true;decide +kernel)) (fun _ _ _ _ _=>(bL (i:=6) gK.nd rfl (Or.inl rfl))) (fun _ _ _ _ _=>yh) (fun _ _ _ _ _=>(Ln (pv 1) T.dz T.cG (j9 T) (by exact hr.mono (by decide)))))
   (ak (xH (i:=5) (own:=[("turn",6)]) rfl gK.nd rfl rfl (Bj rfl rfl rfl (by decide +kernel)) (M8 rfl T.xT (aj (cZ (bA (K:=K)) (pv 3) aH (fun _ _=>rfl)) aq)) (cH (by show qF ["board","reader","call","shape","numbers","rows","turn"] (aA lu) _ _=true;decide +kernel)) (fun _ _ _ _ _=>(bL (i:=6) gK.nd rfl (Or.inl rfl))) (fun _ _ _ _ _=>yh) (fun _ _ _ _ _=>(Ln (pv 1) T.dz T.fP (Dg T) (by exact hr.mono (by decide)))))
   (ak (a_ (aR eX (pv 2) (bz T.Vo rfl) (aQ _)) (az (aC (aK T.gC (El T) (by exact hr.mono (by decide)) rfl (aj (pv 0) (aj (pv 2) (aj (pv 4) (aj (pv 5) aq))))))) aL)
   (ak (a_ (aR eX (pv 2) (bz T.Vy rfl) (aQ _)) (az (aC (aK T.eO (zX T) (by exact hr.mono (by decide)) rfl (aj (pv 0) (aj (pv 2) (aj (pv 4) aq)))))) aL)
   (ak (a_ (aR eX (pv 2) (bz T.G9 rfl) (aQ _)) (az (aC (aK T.dg (wN T L) (by exact hr.mono (by decide)) rfl (aj (pv 0) (aj (pv 2) (aj (pv 4) (aj (pv 5) aq))))))) aL)
   (az (aC (aK T.fO (DG T L) (by exact hr.mono (by decide)) rfl (aj (pv 0) (aj (pv 2) (aj (pv 4) aq))))))))))))),?_⟩
 obtain⟨X,A,s,r,dx,l,p,lo,xs,cl,t,c,rfl,hx,iv,hXr,rd,hlo,hxl,hcall,has,hc,kk⟩:=hsp
 cases hdr:xs.drop p with
 |nil=>rw[hdr]at hcall;cases hcall
 |cons q r' =>
 rw[hdr]at hcall
 obtain⟨n,k,rws,hsh,hn,hrows,ecl⟩:=Vh hcall
 obtain⟨hq,hr',hp⟩:=drop_cons hdr
 subst ecl
 refine aN ?_
 refine Gi (aa rfl) rd.1 (RV.uZ _) aV fun H1 s1=>?_
 refine⟨r,dx,l,p,lo,xs,q,rfl,rd.up s1,hlo,hq,fun H2 k2 rd2=>?_⟩
 (try dsimp only)
 have kp2:Kp r H H2:=(s1.kp r).trans k2
 refine aN ?_
 refine⟨.int q,rfl,q,n,k,rfl,hsh,fun ts hts=>?_⟩
 (try dsimp only)
 refine aN ?_
 have hnb:n≤20000:=by rw[← hr',List.length_drop]at hn;omega
 show tLc _ _ _ _ _ _ _ _
 refine ab6 (n:=n) (aB (Pb (aa rfl) (hts _) aJ rfl) aV) hnb fun H3 s3 Dn hDn=>⟨fun i H'=>Bx T H' r dx l (p+1+i) lo∧H' Dn=some (.lst ((r'.take i).map V.int))∧∀b o,H3 b=some o→b≠r→H' b=some o,?_,?_,?_⟩
 ·have ne:∀{b o},H3 b=some o→b≠Dn:=fun e=>bj e hDn
  have rd3:=rd2.up s3
  exact⟨⟨by rw[aO (ne rd3.1)];exact rd3.1,by rw[aO (ne rd3.2)];exact rd3.2⟩,aX,fun b o e _=>by rw[aO (ne e)];exact e⟩
 ·rintro i H4 hi ⟨rd4,hD4,kp4⟩
  refine⟨Ey _ 6 _,?_⟩
  simp only[YB,if_true]
  have hir:i<r'.length:=by omega
  have hm:xs[p+1+i]?=some r'[i]:=by
   rw[← List.getElem?_drop,hr',List.getElem?_eq_getElem hir]
  refine Gi (aa rfl) rd4.1 (RV.uZ _) aV fun H6 s6=>?_
  refine⟨r,dx,l,p+1+i,lo,xs,r'[i],rfl,rd4.up s6,hlo,hm,fun H7 k7 rd7=>?_⟩
  have nDr:Dn≠r:=fun z=>by rw[z,(rd2.up s3).1]at hDn;cases hDn
  have hD7:=k7 _ _ (s6 _ _ hD4) nDr
  refine⟨_,hD7,by rw[List.length_map,List.length_take];exact iB (by omega),⟨?_,?_⟩,?_,fun b o e nb=>?_⟩
  ·rw[aO (cB rd7.1 hD7 (by intro z;cases z))];exact rd7.1
  ·rw[aO (fun z=>by have:=(rd2.up s3).2;rw[z,hDn]at this;cases this)];exact rd7.2
  ·rw[aX,List.take_add_one,List.getElem?_eq_getElem hir,List.map_append]
   rfl
  ·rw[aO (bj e hDn)]
   exact k7 _ _ (s6 _ _ (kp4 _ _ e nb)) nb
 rintro H4 ⟨rd4,hD4,kp4⟩
 (try dsimp only)
 have kpH4:Kp r H H4:=fun b o e nb=>kp4 _ _ (s3 _ _ (kp2 _ _ e nb)) nb
 have hkl:rws.length=k:=S7 hrows
 have hk2:=(Q_ hsh).2
 refine aN ?_
 show tLc _ _ _ _ _ _ _ _
 refine ab6 (n:=k) (aB (Pb (aa rfl) (hts _) aJ rfl) aV) (by omega) fun H5 s5 Dr hDr=>⟨fun i H'=>(∃(pos:Nat) (rs:List (Addr×List Int)) (rem:List (List Int)),Bx T H' r dx l pos lo∧PyFlat.rows (k - i) (xs.drop pos)=some (rem,t)∧rs.map (·.2)++rem=rws∧rs.length=i∧H' Dr=some (.lst (rs.map fun q:Addr×List Int=>V.ref q.1))∧∀q∈rs,H5 q.1=none∧q.1≠Dr∧H' q.1=some (.lst (q.2.map V.int)))∧∀b o,H5 b=some o→b≠r→H' b=some o,?_,?_,?_⟩
 ·have ne:∀{b o},H5 b=some o→b≠Dr:=fun e=>bj e hDr
  have rd5:=rd4.up s5
  refine⟨⟨p+1+n,[],rws,⟨by rw[aO (ne rd5.1)];exact rd5.1,by rw[aO (ne rd5.2)];exact rd5.2⟩,?_,rfl,rfl,aX,by simp⟩,fun b o e _=>by rw[aO (ne e)];exact e⟩
  rw[Nat.sub_zero,← List.drop_drop,hr']
  exact hrows
 ·rintro i H6 hi ⟨⟨pos,rs,rem,rd6,hro,happ,hlen,hD6,hall⟩,kp6⟩
  refine⟨Ey _ 6 _,?_⟩
  simp only[YB,if_true]
  obtain⟨j,ej⟩:∃j,k - i=j+1:=⟨k - i - 1,by omega⟩
  rw[ej]at hro
  obtain⟨m,r2,xs',e1,m0,mle,e2,h2⟩:=M9 hro
  obtain⟨hm,hr2,hpos⟩:=drop_cons e1
  have mN:((m.toNat:Nat):Int)=m:=by omega
  have hle:pos+1+m.toNat≤xs.length:=by rw[← hr2,List.length_drop]at mle;omega
  refine Gi (aa rfl) rd6.1 (RV.Rm _) aV fun H7 s7=>?_
  refine⟨r,dx,l,pos,lo,xs,m.toNat,rfl,rd6.up s7,hlo,by rw[mN];exact hm,hle,hxl,fun H8 q k8 nq hq rd8=>?_⟩
  have nDr:Dr≠r:=fun z=>by rw[z,(rd4.up s5).1]at hDr;cases hDr
  have hD8:=k8 _ _ (s7 _ _ hD6) nDr
  have nqr:q≠r:=fun z=>by rw[z,(rd6.up s7).1]at nq;cases nq
  have nqD:q≠Dr:=fun z=>by rw[z,s7 _ _ hD6]at nq;cases nq
  have q5:H5 q=none:=by
   cases z:H5 q with
   |none=>rfl
   |some o=>rw[s7 _ _ (kp6 _ _ z nqr)]at nq;cases nq
  have h2':PyFlat.rows (k - (i+1)) (xs.drop (pos+1+m.toNat))=some (xs',t):=by
   rw[← List.drop_drop,hr2,show k - (i+1)=j by omega]
   exact h2
  refine⟨_,hD8,by rw[List.length_map,hlen];exact iB (by omega),⟨pos+1+m.toNat,rs++[(q,(xs.drop (pos+1)).take m.toNat)],xs',⟨?_,?_⟩,h2',?_,by rw[List.length_append,hlen];rfl,?_,fun z hz=>?_⟩,fun b o e nb=>?_⟩
  ·rw[aO (cB rd8.1 hD8 (by intro z;cases z))];exact rd8.1
  ·rw[aO (fun z=>by have:=(rd4.up s5).2;rw[z,hDr]at this;cases this)];exact rd8.2
  ·rw[List.map_append,List.append_assoc,← happ,e2,hr2]
   rfl
  ·rw[aX,List.map_append]
   rfl
  ·rcases List.mem_append.mp hz with hz | hz
   ·obtain⟨a1,a2,a3⟩:=hall z hz
    refine⟨a1,a2,?_⟩
    rw[aO a2]
    refine k8 _ _ (s7 _ _ a3) fun zr=>?_
    have:=(rd4.up s5).1
    rw[← zr,a1]at this
    cases this
   ·rw[List.mem_singleton.mp hz]
    exact⟨q5,nqD,by rw[aO nqD];exact hq⟩
  ·rw[aO (bj e hDr)]
   exact k8 _ _ (s7 _ _ (kp6 _ _ e nb)) nb
 rintro H6 ⟨⟨pos,rs,rem,rd6,hro,happ,hlen,hD6,hall⟩,kp6⟩
 (try dsimp only)
 rw[Nat.sub_self]at hro
 obtain⟨erem,et⟩:=NZ hro
 rw[erem,List.append_nil]at happ
 have kpH6:Kp r H H6:=fun b o e nb=>kp6 _ _ (s5 _ _ (kpH4 _ _ e nb)) nb
 have hx6:RX T X H6 A s:=hx.kpX hXr kpH6 (by rw[rd6.1];simp)
 have nDnr:Dn≠r:=fun z=>by rw[z,(rd2.up s3).1]at hDn;cases hDn
 have hDn6:H6 Dn=some (.lst ((r'.take n).map V.int)):=kp6 _ _ (s5 _ _ hD4) nDnr
 have hAns:Hx T X H6 A s q (r'.take n) rs Dn Q:=⟨hx6,iv,hDn6,by rw[hsh,List.length_take,Nat.min_eq_left hn,hlen],by rw[happ];exact has,fun c' e v H' A' f eb rx lv=>by
  rw[happ,hc]at e
  cases e
  refine kk v H' A' pos (fun b o e2 fo nb=>f _ _ (kpH6 _ _ e2 nb) fo) eb ⟨f _ _ rd6.1 (acB _ _ _),f _ _ rd6.2 hlo.fix⟩ et.symm rx lv⟩
 have hRow:Dt H6 Dr rs:=⟨hD6,fun z hz=>(hall z hz).2.2⟩
 have hrange:=zq hsh
 refine cU (aP (eY (aa rfl) aJ)) (fun q1 H7 s7=>?_) fun q1 H7 s7=>?_
 ·have q1:q≤7:=of_decide_eq_true q1
  exact mF (aB (aa rfl) (aB (aa rfl) (aB (aa rfl) (aB (aa rfl) aV)))) fun H8 s8=>⟨X,A,s,q,_,rs,Dn,Dr,rfl,⟨hrange.1,q1⟩,hAns.up (s7.trans s8),hRow.up (s7.trans s8)⟩
 have q1:¬q≤7:=of_decide_eq_false q1
 refine cU (aP (eY (aa rfl) aJ)) (fun q2 H8 s8=>?_) fun q2 H8 s8=>?_
 ·have q2:q≤10:=of_decide_eq_true q2
  exact mF (aB (aa rfl) (aB (aa rfl) (aB (aa rfl) aV))) fun H9 s9=>⟨X,A,s,q,_,rs,Dn,rfl,⟨by omega,q2⟩,hAns.up (s7.trans (s8.trans s9))⟩
 have q2:¬q≤10:=of_decide_eq_false q2
 refine cU (aP (eY (aa rfl) aJ)) (fun q3 H9 s9=>?_) fun q3 H9 s9=>?_
 ·have q3:q≤17:=of_decide_eq_true q3
  exact mF (aB (aa rfl) (aB (aa rfl) (aB (aa rfl) (aB (aa rfl) aV)))) fun H10 s10=>⟨X,A,s,q,_,rs,Dn,Dr,rfl,⟨by omega,q3⟩,hAns.up (s7.trans (s8.trans (s9.trans s10))),hRow.up (s7.trans (s8.trans (s9.trans s10)))⟩
 have q3:¬q≤17:=of_decide_eq_false q3
 exact mF (aB (aa rfl) (aB (aa rfl) (aB (aa rfl) aV))) fun H10 s10=>⟨X,A,s,q,_,rs,Dn,rfl,⟨by omega,hrange.2⟩,hAns.up (s7.trans (s8.trans (s9.trans s10)))⟩
end
end Jq
end
section
set_option Elab.async false
set_option linter.all false
set_option maxRecDepth 100000
set_option maxHeartbeats 1000000
namespace L2
open PySem PySem.Spec PyProof.Rows
def ack(t:TE):TE:=fun σ H Q=>∃tl xs,H tl=some (.lst xs)∧t σ (But tl H) fun v H'=>H' tl=none→Q v (upd H' tl (.lst xs))
theorem zZ{P b:Addr}{H:Hp}(h:H b=none):But P H b=none:=by
 unfold But
 split
 ·rfl
 ·exact h
theorem Z2{P b:Addr}{H:Hp}{o:HO}(h:But P H b=some o):b≠P∧H b=some o:=by
 unfold But at h
 by_cases z:b=P
 ·rw[if_pos z]at h;cases h
 ·rw[if_neg z]at h;exact⟨z,h⟩
theorem abF{X:Cx}{e:Expr}{t:TE}(h:PE X e t):PE X e (ack t):=by
 intro pins s σ H Q I ⟨tl,xs,hl,q⟩
 obtain⟨z,its,n,r,eo⟩:=(show iz X.prog X.w H s.heap tl (.lst xs)from I.hok tl _ hl)
 have nl:∀{b:Addr} {o:HO},H b=some o→o≠.lst xs→But tl H b=some o:=fun e ne=>yd e (cB e hl ne)
 have nL:tl≠X.env.locals:=fun w=>by have:=I.free;rw[← w,hl]at this;cases this
 have nF:tl∉X.fs:=fun w=>by
  obtain⟨_,o,ho,_⟩:=I.ok.DX.mem w
  have:=I.base.free tl o ho (I.ok.frf tl w) fun u=>I.ok.Vr tl u w
  rw[hl]at this;cases this
 have nb:∀o,X.s_0.heap.get? tl=some o→X.H_0 tl=none→tl∉X.ex→False:=fun o ho h0 hx=>by
  have:=I.base.free tl o ho h0 hx
  rw[hl]at this;cases this
 have I':Inv X (pins++[(tl,{cls:=.type "list",data:=.seq its.toArray n})]) σ (But tl H) s:=by
  refine⟨I.ok,I.os,I.bare,⟨I.base.keep,I.base.slot,fun b o e n hx=>zZ (I.base.free b o e n hx),I.base.there,fun b ys e=>nl (I.base.tups b ys e) (by intro w;cases w),fun b o u e=>nl (I.base.Le b o u e) (by intro w;cases w),fun b ps e=>?_⟩,I.loc,I.cell,zZ I.free,fun x c e=>zZ (I.t_ x c e),fun p hp=>?_,fun a o ha=>?_,I.len⟩
  ·obtain⟨m,e1⟩:=I.base.J0 b ps e
   exact⟨m,nl e1 (by intro w;cases w)⟩
  ·rcases List.mem_append.mp hp with hp | hp
   ·obtain⟨a1,a2,a3⟩:=I.pin p (List.mem_append_left _ hp)
    exact⟨a1,zZ a2,a3⟩
   ·rcases List.mem_append.mp hp with hp | hp
    ·obtain⟨a1,a2,a3⟩:=I.pin p (List.mem_append_right _ hp)
     exact⟨a1,zZ a2,a3⟩
    ·rw[List.mem_singleton.mp hp]
     refine⟨eo,by unfold But;rw[if_pos rfl],nL,nF,fun v w=>by cases w⟩
  ·obtain⟨na,ha⟩:=Z2 ha
   exact(I.hok a o ha).stay (fun b u _ w=>w) (fun b w=>nl w (by intro w;cases w)) fun b ys w=>nl w (by intro w;cases w)
 refine thn (h _ s σ _ _ I' q) fun u s' ⟨v,H',J,rv,qq⟩=>?_
 obtain⟨p1,p2,_,_,p5⟩:=J.pin (tl,{cls:=.type "list",data:=.seq its.toArray n}) (List.mem_append_right _ (List.mem_append_right _ (List.mem_singleton.mpr rfl)))
 have p2:H' tl=none:=p2
 have keep:∀{b:Addr} {o:HO},H' b=some o→upd H' tl (.lst xs) b=some o:=fun e=>by rw[aO (bj e p2)];exact e
 refine⟨v,upd H' tl (.lst xs),⟨J.ok,J.os,J.bare,⟨J.base.keep,J.base.slot,fun b o e n hx=>?_,J.base.there,fun b ys e=>keep (J.base.tups b ys e),fun b o u e=>keep (J.base.Le b o u e),fun b ps e=>?_⟩,J.loc,J.cell,?_,fun x c e=>?_,fun p hp=>?_,fun a o ha=>?_,J.len⟩,rv,qq p2⟩
 ·have hb:b≠tl:=fun w=>by subst w;exact nb o e n hx
  rw[aO hb];exact J.base.free b o e n hx
 ·obtain⟨m,e1⟩:=J.base.J0 b ps e
  exact⟨m,keep e1⟩
 ·rw[aO nL.symm];exact J.free
 ·have hc:c≠tl:=fun w=>by
   obtain⟨v,o,ho,hd⟩:=J.cell x c e
   rw[w,p1]at ho
   cases ho
   exact p5 _ hd
  rw[aO hc];exact J.t_ x c e
 ·have hp':p∈X.pn++(pins++[(tl,({cls:=.type "list",data:=.seq its.toArray n}:Obj))]):=by
   rcases List.mem_append.mp hp with hp|hp
   ·exact List.mem_append_left _ hp
   ·exact List.mem_append_right _ (List.mem_append_left _ hp)
  obtain⟨a1,a2,a3⟩:=J.pin p hp'
  have hn:p.1≠tl:=fun w=>by
   have:=(I.pin p hp).2.1
   rw[w,hl]at this;cases this
  exact⟨a1,by rw[aO hn];exact a2,a3⟩
 ·by_cases w:a=tl
  ·subst w
   rw[aX]at ha
   cases ha
   exact⟨z,its,n,r,p1⟩
  ·rw[aO w]at ha
   exact(J.hok a o ha).stay (fun b u _ q=>q) (fun b q=>keep q) fun b ys q=>keep q
end L2
namespace Jq
open PySem PySem.Spec PyProof.Rows L2
def short(x:Vbbhaj.State×Vbbhaj.Ans):Prop:=(Mi x.2).length≤600
theorem bf(s:Vbbhaj.State)(n:Nat):short (Vbbhaj.no s n):=by show 1≤600;decide
theorem dB(s:Vbbhaj.State)(n:Nat):short (Vbbhaj.yes s n):=by show 1≤600;decide
theorem km(s:Vbbhaj.State)(n:Nat){r:List Nat}(h:r.length≤500):short (Vbbhaj.yes s n [r]):=by
 show(((n:Nat):Int)::(((r.length:Nat):Int)::r.map Int.ofNat++[])).length≤600
 rw[List.append_nil,List.length_cons,List.length_cons,List.length_map]
 omega
theorem K5(s:Vbbhaj.State)(n:Nat){r q:List Nat}(h:r.length≤100)(h2:q.length≤100):short (Vbbhaj.yes s n [r,q]):=by
 show(((n:Nat):Int)::(((r.length:Nat):Int)::r.map Int.ofNat++(((q.length:Nat):Int)::q.map Int.ofNat++[]))).length≤600
 simp only[List.append_nil,List.length_cons,List.length_append,List.length_map]
 omega
theorem wR{s:Vbbhaj.State}{n:Int}{f:Vbbhaj.Job→Vbbhaj.State×Vbbhaj.Ans}(h:∀j∈s.jobs,short (f j)):short (Vbbhaj.onJob s n f):=by
 unfold Vbbhaj.onJob
 split
 ·exact bf _ _
 ·split
  ·exact bf _ _
  ·rename_i j e
   exact h _ (iJ e).1
theorem xP{s:Vbbhaj.State}{n:Int}{f:Vbbhaj.Job→Vbbhaj.State×Vbbhaj.Ans}(h:∀j∈s.jobs,short (f j)):short (Vbbhaj.onWaiting s n f):=by
 have e:Vbbhaj.onWaiting s n f=Vbbhaj.onJob s n fun j=>if Vbbhaj.isWaiting j=true then f j else Vbbhaj.no s 6:=rfl
 rw[e]
 refine wR fun j hj=>?_
 split
 ·exact h j hj
 ·exact bf _ _
theorem bh{c:Prop}[Decidable c]{x y:Vbbhaj.State×Vbbhaj.Ans}(h1:short x)(h2:short y):short (if c then x else y):=by
 split
 ·exact h1
 ·exact h2
theorem Ti{s:Vbbhaj.State}(iv:Inv s)(p:Vbbhaj.Job→Bool):(s.jobs.filter p).length≤500:=by
 have:=List.length_filter_le p s.jobs
 have:=iv.g.few
 have:=iv.g.cap.2
 omega
theorem Yz{s:Vbbhaj.State}(iv:Inv s)(c:Vbbhaj.Call):short (Vbbhaj.step s c):=by
 cases c with
 |begin c p a=>exact bh (bf _ _) (dB _ _)
 |submit c p h b t =>
  show short (Vbbhaj.doSubmit s c p h b t)
  unfold Vbbhaj.doSubmit
  refine bh (bf _ _) (bh (bf _ _) ?_)
  split
  ·exact bf _ _
  ·exact bh (bf _ _) (bh (bf _ _) (bh (bf _ _) (bh (bf _ _) (bh (bf _ _) (dB _ _)))))
 |hold n=>exact xP fun j _=>bh (bf _ _) (dB _ _)
 |letgo n=>exact xP fun j _=>bh (bf _ _) (dB _ _)
 |change n c p=>exact bh (bf _ _) (xP fun j _=>dB _ _)
 |cancel n=>exact xP fun j _=>km _ _ (Av iv.g j _)
 |forget n =>
  refine wR fun j _=>?_
  split
  ·exact dB _ _
  ·exact bf _ _
 |tick n=>exact bh (bf _ _) (bh (bf _ _) (dB _ _))
 |limit c n=>exact bh (bf _ _) (dB _ _)
 |close c=>exact bh (bf _ _) (bh (bf _ _) (dB _ _))
 |open_ c=>exact bh (bf _ _) (bh (bf _ _) (dB _ _))
 |start i l=>exact bh (bf _ _) (bh (bf _ _) (bh (bf _ _) (dB _ _)))
 |serve i l=>exact bh (bf _ _) (bh (bf _ _) (bh (bf _ _) (dB _ _)))
 |drain i=>exact bh (bf _ _) (bh (bf _ _) (bh (bf _ _) (bh (dB _ _) (dB _ _))))
 |pick i =>
  refine bh (bf _ _) (bh (bf _ _) (bh (bf _ _) ?_))
  split
  ·exact dB _ _
  ·exact dB _ _
 |peek i=>exact bh (bf _ _) (bh (bf _ _) (bh (bf _ _) (dB _ _)))
 |finish i a c =>
  show short (Vbbhaj.doFinish s i a c)
  unfold Vbbhaj.doFinish
  refine bh (bf _ _) ?_
  split
  ·exact bf _ _
  ·exact km _ _ (Av iv.g _ _)
 |requeue i =>
  refine bh (bf _ _) ?_
  split
  ·exact bf _ _
  ·exact dB _ _
 |order c =>
  refine bh (bf _ _) (km _ _ ?_)
  rw[List.length_map]
  show(Vbbhaj.inOrder s c.toNat).length≤500
  unfold Vbbhaj.inOrder
  rw[(qX _ _).length_eq]
  exact Ti iv _
 |status n =>
  refine wR fun j hj=>K5 _ _ ?_ ?_
  ·rw[List.length_map]
   have:=S6 iv.g hj
   omega
  ·rw[List.length_append]
   have:(Vbbhaj.stateOf j).length=2:=by
    unfold Vbbhaj.stateOf
    split<;>rfl
   rw[this]
   show 2+7≤100
   decide
 |tests n =>
  refine wR fun j hj=>km _ _ ?_
  have h1:=(iv.g.ok j hj).few
  have:∀l:List Vbbhaj.Test,(l.flatMap fun t=>[t.job,t.kind,t.n]).length=3 * l.length:=by
   intro l
   induction l with
   |nil=>rfl
   |cons t r ih=>rw[List.flatMap_cons,List.length_append,ih];show 3+3 * r.length=3 * (r.length+1);omega
  rw[this]
  omega
 |after n =>
  refine wR fun j _=>km _ _ ?_
  rw[List.length_map]
  exact Ti iv _
 |running =>
  refine km _ _ ?_
  rw[show Vbbhaj.INITS=16 from rfl,Ji,Iz]
  have:=List.length_filter_le (fun i=>decide (0<(s.inits.getD i {}).job)) (List.range 16)
  rw[List.length_range]at this
  omega
 |counts=>exact km _ _ (by show 3≤500;decide)
 |initiator i =>
  by_cases q:Vbbhaj.isInit i=false
  ·rw[show Vbbhaj.step s (.initiator i)=Vbbhaj.no s 1 from if_pos q];exact bf _ _
  ·rw[show Vbbhaj.step s (.initiator i)=_ from if_neg q]
   have:=Hs iv (c:=i) (by simpa using q)
   exact K5 _ _ (by omega) (by show 2≤100;decide)
 |class_ c=>exact bh (bf _ _) (km _ _ (by show 3≤500;decide))
end Jq
end
section
set_option Elab.async false
set_option linter.all false
set_option maxRecDepth 100000
set_option maxHeartbeats 1000000
namespace Jq
open PySem PySem.Spec PyProof.Rows L2
theorem Z7{c:List (List Int)}(h:VbbhajNeutral.asked1 c=true):∃k,VbbhajNeutral.callOf c=some k:=by
 unfold VbbhajNeutral.asked1 at h
 split at h
 case h_2=>exact⟨_,Hi (by simp only[Bool.and_eq_true]at h;exact h.1.2.1)⟩
 case h_27=>cases h
 all_goals exact⟨_,rfl⟩
theorem aaQ{s:Vbbhaj.State}{c:List (List Int)}{k:Vbbhaj.Call}(h:VbbhajNeutral.callOf c=some k):VbbhajNeutral.step s c=((Vbbhaj.step s k).1,Mi (Vbbhaj.step s k).2):=by
 unfold VbbhajNeutral.step
 rw[h]
 rfl
section
variable {P:Program}{w:World}{K:PySem.W.Frag}{mg:Str→Option Value}{base:Heap}
variable {σ:St}{H:Hp}{ta tb tc td:TE}{a:Addr}{j:Vbbhaj.Job}{A:Ad}{s:Vbbhaj.State}{T:Txt K mg}{X:Addr→Prop}{D:Ends}
theorem aan{C:Addr}{m:Str}{G:GT}{R:V→Hp→Prop}{dx:Addr}{fs:List (Str×V)}(ha:Ev ta σ H (.ref a))(e:H a=some (.ins C dx fs))(l:fs.lookup m=none)(hg:∀H1,aY H H1→G [.ref a] H1 R):EvP (Nt C m (ro G) [] E0 ta eV) σ H R:=fun H1 s1 Q k =>
 ha H1 s1 _ fun x H2 s2 ex=>⟨a,dx,fs,ex,(s1.trans s2) _ _ e,l,by
  subst ex
  exact⟨R,hg H2 (s1.trans s2),fun v H' s' r=>k v H' (s2.trans s') r⟩⟩
theorem aaJ{tl:Addr}{H H':Hp}(k:∀b o,H b=some o→b≠tl→H' b=some o):aY (But tl H) (But tl H'):=fun b o e=>by
 obtain⟨n,e⟩:=Z2 e
 exact yd (k _ _ e n) n
def aec(T:Txt K mg):Sp:=fun vs H Q _=>∃A lc lo xs cs f,vs=[.ref A.b,.ref lc]∧RX T (fun _=>False) H A Vbbhaj.start∧H lc=some lo∧RL lo xs∧xs.length≤20000∧PyFlat.calls PyVbbhaj.shape f xs=some cs∧(∀c∈cs,VbbhajNeutral.asked1 c=true)∧cs.length≤400 ∧
 ∀v H',IsL ((PyFlat.told (PyFlat.played VbbhajNeutral.step VbbhajNeutral.start cs)).map V.int) v H'→Q v H'
structure LoopAt(T:Txt K mg)(b lc r dx tl:Addr)(lo:HO)(xs fin:List Int)(m:Nat)(σ:St)(H:Hp):Prop where
 ex:∃(A:Ad) (s:Vbbhaj.State) (pos f:Nat) (cs:List (List (List Int))) (tot:List Int),m=cs.length∧A.b=b∧RX T (fun z=>z=r) (But tl H) A s∧Inv s∧Bx T H r dx lc pos lo∧PyFlat.calls PyVbbhaj.shape f (xs.drop pos)=some cs∧(∀c∈cs,VbbhajNeutral.asked1 c=true)∧H tl=some (.lst (tot.map V.int))∧tot++PyFlat.told (PyFlat.played VbbhajNeutral.step s cs)=fin∧tot.length+601 * cs.length≤300000
 st:∃o4,σ=[some (.ref b),some (.ref lc),some (.ref r),some (.ref tl),o4]
theorem Mv(T:Txt K mg)(L:MT T base):bG P w K mg base CX0 8 T.l_.f T.l_.fd ["board","calls"] (aec T):=by
 refine T.l_.F.ok rW (fun vs H Q E ⟨_,_,_,_,_,_,e,_⟩=>by rw[e];rfl) fun cdv A outer s H vs Q E hr hsp=>?_
 refine⟨_,(ak (bu (i:=2) rW.nd rfl (Or.inl rfl) (UJ T.Jb (JP T) T.gw.b (by exact hr.mono (by decide)) rfl (aj (pv 1) aq)))
   (ak (bu (i:=3) rW.nd rfl (Or.inl rfl) (bc aq))
   (ak (aaO PassesOwn.never (cD (bJ (Ln (pv 2) T.dz T.fC (Br T) (by exact hr.mono (by decide))))) (ak (bu (i:=4) rW.nd rfl (Or.inl rfl) (abF (aK T.jU (J4 T L) (by exact hr.mono (by decide)) rfl (aj (pv 0) (aj (pv 2) aq)))))
   (ak (iQ (M_ PySem.F.plainAttrs_list PySem.F.slot_list_append PySem.F.type_list_append NQ (pv 3) (aj (bR bC rfl T.iT gh (aj (pv 4) aq)) aq)))
   (az (iQ (M_ PySem.F.plainAttrs_list PySem.F.slot_list_extend PySem.F.type_list_extend Oi (pv 3) (aj (pv 4) aq)))))))
   (az (aC (pv 3)))))),?_⟩
 obtain⟨A,lc,lo,xs,cs,f,rfl,hx,hlc,hlo,hxl,hcs,has,hcl,kk⟩:=hsp
 have mk:EvP _ (start ["board","calls","reader","told","answer"] [V.ref A.b,.ref lc]) H (fun v H'=>∃r dx,v=.ref r∧H r=none∧H' r=some (.ins T.g_ dx (RV.mk lc 0).fs)) :=
  Ef (C:=T.g_) (sp:=Rt T) (t:=bw (b8 1) eV) (RA:=fun vs H'=>vs=[.ref lc]) (aB (aa rfl) aV) fun vs H1 x dx s1 e hx0 hd0 ne Q' k=>by
   subst e
   exact⟨x,dx,lc,rfl,aX,fun H' k' e'=>k H' (Bb hx0 hd0 k') ⟨x,dx,rfl,s1.free hx0,e'⟩⟩
 refine aN (uY mk ?_)
 rintro v H1 s1 ⟨r,dx,rfl,nr,er⟩
 (try dsimp only)
 refine aN (uY (yo aV (Nat.zero_le _)) ?_)
 rintro v H2 s2 ⟨tl,rfl,ntl,htl⟩
 (try dsimp only)
 have fewL:tl≠r∧tl≠lc:=⟨(fun z=>by rw[z,er]at ntl;cases ntl),(fun z=>by rw[z,s1 _ _ hlc]at ntl;cases ntl)⟩
 refine aN (show aai _ _ _ _ _ from⟨fun m σ' H'=>LoopAt T A.b lc r dx tl lo xs (PyFlat.told (PyFlat.played VbbhajNeutral.step VbbhajNeutral.start cs)) m σ' H',⟨cs.length,⟨A,Vbbhaj.start,0,f,cs,[],rfl,rfl,?_,Gu,⟨s2 _ _ er,s2 _ _ (s1 _ _ hlc)⟩,hcs,has,htl,rfl,by rw[List.length_nil];omega⟩,⟨_,rfl⟩⟩,?_⟩)
 ·have r2:RX T (fun z=>z=r) (But tl H2) A Vbbhaj.start:=by
   refine⟨hx.r.up fun b o e=>?_,fun b hb e=>?_⟩
   ·obtain⟨_,e⟩:=bM e
    have e1:=s1 _ _ e
    rw[cu (X:=fun z=>z=r) (fun z=>by rw[z,nr]at e;cases e)]
    exact yd (s2 _ _ e1) (bj e1 ntl)
   ·rw[hb]at e
    rw[yd (s2 _ _ er) fewL.1.symm]at e
    cases e
  exact r2
 rintro m σ' H3 ⟨⟨A3,s3,pos,f3,cs3,tot,rfl,eb,rx3,iv3,rd3,hcs3,has3,htl3,hfin,hbd⟩,o4,rfl⟩
 have hend:EvT _ [some (.ref A.b),some (.ref lc),some (.ref r),some (.ref tl),o4] H3 (!decide (xs.length≤pos)) :=
  cC (fu (aan (C:=T.g_) (m:="is_at_end") (G:=adO T) (R:=fun v _=>v=.bl (decide (xs.length≤pos))) (ta:=b8 2) (aa rfl) rd3.1 (RV.O9 _) fun H4 s4=>⟨r,dx,lc,pos,lo,xs,rfl,rd3.up s4,hlo,rfl⟩))
 refine hend H3 (aY.refl _) _ fun H4 s4=>?_
 cases hd:xs.drop pos with
 |nil =>
  have hle:xs.length≤pos:=List.drop_eq_nil_iff.mp hd
  rw[decide_eq_true hle]
  refine HS ?_
  have e0:cs3=[]:=by
   rw[hd]at hcs3
   cases f3<;>exact(Option.some.inj hcs3).symm
  subst e0
  (try dsimp only)
  refine cI (aa rfl) fun v H5 s5 ev=>kk v H5 ⟨tl,ev,?_⟩
  rw[← hfin]
  show H5 tl=some (.lst ((tot++[]).map V.int))
  rw[List.append_nil]
  exact s5 _ _ (s4 _ _ htl3)
 |cons q r' =>
  have hlt:¬xs.length≤pos:=fun z=>by rw[List.drop_eq_nil_iff.mpr z]at hd;cases hd
  rw[decide_eq_false hlt]
  refine Ib ?_
  rw[hd]at hcs3
  obtain⟨c,t,cs',f',hcall,rfl,hcs'⟩:=Vi hcs3
  obtain⟨k,hk⟩:=Z7 (has3 c List.mem_cons_self)
  refine⟨fun σ' H'=>LoopAt T A.b lc r dx tl lo xs (PyFlat.told (PyFlat.played VbbhajNeutral.step VbbhajNeutral.start cs)) cs'.length σ' H',fun σ' H' h=>⟨_,Nat.lt_succ_self _,h⟩,?_⟩
  show m6 _ _ _ _ _
  refine aN ?_
  show ack _ _ _ _
  refine⟨tl,tot.map V.int,s4 _ _ htl3,?_⟩
  have rd4:=rd3.up s4
  have rdB:Bx T (But tl H4) r dx lc pos lo:=⟨yd rd4.1 fewL.1.symm,yd rd4.2 fewL.2.symm⟩
  refine w_call (aB (aa rfl) (aB (aa rfl) aV)) fun H5 s5=>?_
  have rx5:RX T (fun z=>z=r) H5 A3 s3:=(rx3.up (aaJ fun b o e _=>s4 _ _ e)).up s5
  refine⟨fun z=>z=r,A3,s3,r,dx,lc,pos,lo,xs,c,t,k,by rw[eb],rx5,iv3,rfl,rdB.up s5,hlo,hxl,by rw[hd];exact hcall,has3 c List.mem_cons_self,hk,fun v H6 A6 p6 fr eb6 rd6 ed6 rx6 lv ntl6=>?_⟩
  obtain⟨la,rfl,hla⟩:=lv
  have nla:la≠tl:=bj hla ntl6
  have hsh:=Yz iv3 k
  have hsh:(Mi (Vbbhaj.step s3 k).2).length≤600:=hsh
  have hz:(wu (Vbbhaj.step s3 k).2).length=(Mi (Vbbhaj.step s3 k).2).length:=by unfold wu;rw[List.length_map]
  rw[List.length_cons]at hbd
  (try dsimp only)
  have hla7:(upd H6 tl (.lst (tot.map V.int))) la=some (.lst (wu (Vbbhaj.step s3 k).2)):=by rw[aO nla];exact hla
  refine aN (Q7 (K:=K) (l:=tl) (xs:=tot.map V.int) (y:=.int ((Mi (Vbbhaj.step s3 k).2).length:Nat)) (aa rfl) (lY (K:=K) (n:=(Mi (Vbbhaj.step s3 k).2).length) ((aa rfl).toL hla7) hz) aX (by rw[List.length_map,sizeLine_eq];omega) fun H8 k8 e8=>?_)
  (try dsimp only)
  have hla8:=k8 _ _ hla7 nla
  refine Tw (K:=K) (l:=tl) (xs:=tot.map V.int++[.int ((Mi (Vbbhaj.step s3 k).2).length:Nat)]) (zs:=wu (Vbbhaj.step s3 k).2) (aa rfl) ((aa rfl).toL hla8) e8 (by rw[List.length_append,List.length_map,hz,List.length_singleton,sizeLine_eq];omega) fun H9 k9 e9=>?_
  have kp9:∀b o,H6 b=some o→b≠tl→H9 b=some o:=fun b o e n=>k9 _ _ (k8 _ _ (by rw[aO n];exact e) n) n
  refine⟨⟨A6,(Vbbhaj.step s3 k).1,p6,f',cs',tot++(((Mi (Vbbhaj.step s3 k).2).length:Nat):Int)::Mi (Vbbhaj.step s3 k).2,rfl,eb6.trans eb,?_,aaj iv3 k,⟨kp9 _ _ rd6.1 fewL.1.symm,kp9 _ _ rd6.2 fewL.2.symm⟩,by rw[ed6];exact hcs',fun c hc=>has3 c (List.mem_cons_of_mem _ hc),?_,?_,?_⟩,_,rfl⟩
  ·exact rx6.up fun b o e=>yd (kp9 _ _ e (bj e ntl6)) (bj e ntl6)
  ·rw[e9]
   unfold wu
   rw[List.map_append,List.map_cons,List.append_assoc]
   rfl
  ·rw[← hfin]
   show _=tot++PyFlat.told ((VbbhajNeutral.step s3 c).2::PyFlat.played VbbhajNeutral.step (VbbhajNeutral.step s3 c).1 cs')
   rw[aaQ hk]
   unfold PyFlat.told
   rw[List.flatMap_cons,List.append_assoc]
  ·rw[List.length_append,List.length_cons]
   omega
def acg(T:Txt K mg):Sp:=fun vs H Q _=>∃lc lo xs cs f,vs=[.ref lc]∧H lc=some lo∧RL lo xs∧xs.length≤20000∧PyFlat.calls PyVbbhaj.shape f xs=some cs∧(∀c∈cs,VbbhajNeutral.asked1 c=true)∧cs.length≤400∧Kg T H ∧
 ∀v H',IsL ((PyFlat.told (PyFlat.played VbbhajNeutral.step VbbhajNeutral.start cs)).map V.int) v H'→Q v H'
theorem V6(T:Txt K mg)(L:MT T base):bG P w K mg base CX0 9 T.mG.f T.mG.fd ["calls"] (acg T):=by
 refine T.mG.F.ok Vc (fun vs H Q E ⟨_,_,_,_,_,e,_⟩=>by rw[e];rfl) fun cdv A outer s H vs Q E hr hsp=>?_
 refine⟨_,(az (aC (aK T.l_ (Mv T L) (by exact hr.mono (by decide)) rfl (aj (UJ T.QG (MN T) T.iy.b (by exact hr.mono (by decide)) rfl (aj (bz T.zQ rfl) (aj (bz T.F_ rfl) (aj (bz T.GX rfl) aq)))) (aj (pv 0) aq))))),?_⟩
 obtain⟨lc,lo,xs,cs,f,rfl,hlc,hlo,hxl,hcs,has,hcl,htab,kk⟩:=hsp
 show fG _ _ _ _ _ _ _
 have mk:EvP _ (start ["calls"] [V.ref lc]) H (fun v H'=>∃A,v=.ref A.b∧RX T (fun _=>False) H' A Vbbhaj.start) :=
  Ef (C:=T.d_) (sp:=Ot T) (t:=bw (tC (.int 500)) (bw (tC (.int 10)) (bw (tC (.int 60)) eV))) (RA:=fun vs H'=>vs=[.int 500,.int 10,.int 60]) (aB aJ (aB aJ (aB aJ aV))) fun vs H1 x dx s1 e hx0 hd0 ne Q' k=>by
   subst e
   refine⟨fun _=>False,x,dx,500,10,60,rfl,aX,fun z=>z,fun z hz=>hz.elim,?_,fun H' A' k' eb rx=>?_⟩
   ·refine htab.up fun b o e=>?_
    rw[cu (fun z=>z)]
    have e1:=s1 _ _ e
    rw[aO (bj e1 hx0),aO (bj e1 hd0)]
    exact e1
   ·exact k H' (Bb hx0 hd0 k') ⟨A',by rw[eb],rx⟩
 refine Qv (RA:=fun vs H'=>∃A,vs=[.ref A.b,.ref lc]∧RX T (fun _=>False) H' A Vbbhaj.start) (fun H1 s1 Q' k'=>EvP.use (mk.up s1) fun v H2 s2 ⟨A,ev,rx⟩=>Ev.use (aa rfl) fun H3 s3=>k' _ H3 (s2.trans s3) ⟨A,by rw[ev],rx.up s3⟩) fun vs H1 s1 ⟨A,e,rx⟩=>?_
 subst e
 exact⟨A,lc,lo,xs,cs,f,rfl,rx,s1 _ _ hlc,hlo,hxl,hcs,has,hcl,kk⟩
end
end Jq
end
section
set_option Elab.async false
set_option linter.all false
set_option maxRecDepth 100000
set_option maxHeartbeats 1000000
namespace Jq
open PySem PySem.Spec PyProof.Rows L2
open PySem.W (WData Codec OpenSpec Well WellAll ReadsW ReadsAllW)
theorem Oa{Pm:Params}{h:Heap}:∀(ns:List Int) (us:List Value),WellAll Pm h us (ns.map WData.int)→Vals (ns.map V.int) us
 |[],_,x=>by
  cases x
  exact .nil
 |n::r,_,x=>by
  cases x with
  |cons a b =>
   cases a
   exact .cons ⟨_,rfl⟩ (Oa r _ b)
theorem IW{R:PySem.W.WRecords}{cl:Str→Option Addr}{h:Heap}:∀(ns:List Int) (us:List Value),Vals (ns.map V.int) us→∃as,ReadsAllW R cl h us (ns.map WData.int) as
 |[],_,x=>by
  cases x
  exact⟨_,.nil⟩
 |n::r,_,x=>by
  cases x with
  |cons a b =>
   obtain⟨t,rfl⟩:=a
   obtain⟨as,q⟩:=IW r _ b
   exact⟨_,.cons (.int n t) q⟩
def VL(K:PySem.W.Frag):Bool:=K.all fun p=>match p.2.cls with
 |.type n=>!(n=="list")
 |_=>true
theorem Th:∀{K:PySem.W.Frag} {a:Addr} {o:Obj},K.lookup a=some o→(a,o)∈K
 |[],a,o,h=>by cases h
 |(b,u)::r,a,o,h=>by
  rw[List.lookup_cons]at h
  cases q:a==b with
  |true =>
   rw[q]at h
   cases h
   rw[beq_iff_eq.mp q]
   exact List.mem_cons_self
  |false =>
   rw[q]at h
   exact List.mem_cons_of_mem _ (Th h)
theorem XX{K:PySem.W.Frag}(h:VL K=true){a:Addr}{o:Obj}(e:K.lookup a=some o):o.cls≠.type "list":=fun z=>by
 have:=List.all_eq_true.mp h _ (Th e)
 rw[show(a,o).2.cls=.type "list" from z]at this
 cases this
def adY(mg:Str→Option Value)(base:Heap):Prop:=∃bm o,mg "__builtins__" = some (.ref bm)∧bm≠builtinsNs∧bm≠mainGlobals∧base.get? bm=some o∧o.cls=.type "module"∧o.dict=some builtinsNs∧o.data=.plain
theorem aau{P:Program}{w:World}{K:PySem.W.Frag}{mg mb:Str→Option Value}{k:Nat}{fa p1 p2:Addr}{fd:FuncData}{sp:Sp}{s1:Shared}{vals:List Value}{ns out:List Int}{R:PySem.W.WRecords}{cl:Str→Option Addr}
  (KX:K.In s1.heap) (hns:s1.heap.Ns mainGlobals mg) (hb:s1.heap.Ns builtinsNs mb) (hbb:∀x:Str,x≠"__name__"→mb x=bootBuiltins x) (hlim:s1.heap.NoLimit) (hg:s1.gens=#[])
  (hbm:∃bm ob,mg "__builtins__" = some (.ref bm)∧bm≠builtinsNs∧s1.heap.get? bm=some ob∧ob.cls=.type "module"∧ob.dict=some builtinsNs∧ob.data=.plain)
  (hwl:WellAll w.params s1.heap vals [.list (ns.map WData.int)]) (hsz:ns.length≤sizeLine) (nol:VL K=true)
  (h1:s1.heap.get? p1=some (PySem.W.tabObj #[])) (h2:s1.heap.get? p2=some (PySem.W.tabObj #[])) (k1:K.lookup p1=none) (k2:K.lookup p2=none) (t1:isCodeTable s1.heap p1) (t2:isCodeTable s1.heap p2)
  (hr:jF k callerA) (F:∀base:Heap,K.In base→adY mg base→bG P w K mg base CX0 k fa fd ["calls"] sp)
  (hbind:Binds K fd ["calls"] [])
  (hsp:∀(H:Hp) (lc:Addr) (lo:HO),H lc=some lo→RL lo ns→H p1=some (.tbl #[])→H p2=some (.tbl #[])→sp [.ref lc] H (fun v H'=>IsL (out.map V.int) v H') fun _ _ _=>False) :
  codeAny (model P w) callerA (.call (.ref fa) ⟨vals,[]⟩) (fun r s'=>∃u as,r=.ok (.ret u)∧ReadsW R cl s'.heap u (.list (out.map WData.int)) as∧OldK s1.heap s'.heap∧s'.os=s1.os∧AllBare s'.gens) s1:=by
 cases hwl with
 |cons x1 x2 =>
  cases x2
  cases x1 with
  |@list a us _ ho hall =>
   have hv:=Oa ns us hall
   obtain⟨H,hH⟩:∃H:Hp,H=fun b=>if b=p1∨b=p2 then some (.tbl #[])else if b=a then some (.frz {cls:=.type "list",data:=.seq us.toArray} (.lst (ns.map V.int)))else none:=⟨_,rfl⟩
   have at_:∀b,H b=if b=p1∨b=p2 then some (.tbl #[])else if b=a then some (.frz {cls:=.type "list",data:=.seq us.toArray} (.lst (ns.map V.int)))else none:=fun b=>by rw[hH]
   clear hH
   have ne1:¬(a=p1∨a=p2):=fun z=>by
    rcases z with z|z
    ·rw[z,h1]at ho
     exact absurd (congrArg Obj.cls (Option.some.inj ho)) (by intro z;cases z)
    ·rw[z,h2]at ho
     exact absurd (congrArg Obj.cls (Option.some.inj ho)) (by intro z;cases z)
   have hp1:H p1=some (.tbl #[]):=by rw[at_,if_pos (.inl rfl)]
   have hp2:H p2=some (.tbl #[]):=by rw[at_,if_pos (.inr rfl)]
   have ha:H a=some (.frz {cls:=.type "list",data:=.seq us.toArray} (.lst (ns.map V.int))):=by rw[at_,if_neg ne1,if_pos rfl]
   have tb:∀b,(b=p1∨b=p2)→s1.heap.get? b=some (PySem.W.tabObj #[]):=fun b z=>by
    rcases z with rfl|rfl
    ·exact h1
    ·exact h2
   have ok:HOk P w H s1.heap:=fun b u q=>by
    rw[at_]at q
    by_cases z:b=p1∨b=p2
    ·rw[if_pos z]at q
     cases q
     exact tb b z
    ·rw[if_neg z]at q
     by_cases z2:b=a
     ·rw[if_pos z2]at q
      cases q
      subst z2
      exact⟨ho,by rw[List.length_map];exact hsz,us,_,hv,ho⟩
     ·rw[if_neg z2]at q
      cases q
   have off:∀{b:Addr} {o:Obj},s1.heap.get? b=some o→(∀vs,o.data≠.fields vs)→(∀vs n,o.data≠.seq vs n)→H b=none:=fun{b o} e n1 n2=>by
    rw[at_]
    by_cases z:b=p1∨b=p2
    ·rw[tb b z]at e
     cases e
     exact absurd rfl (n1 #[])
    ·rw[if_neg z]
     by_cases z2:b=a
     ·rw[z2,ho]at e
      cases e
      exact absurd rfl (n2 us.toArray _)
     ·rw[if_neg z2]
   have nK:∀b o,K.lookup b=some o→H b=none:=fun b o e=>by
    rw[at_]
    by_cases z:b=p1∨b=p2
    ·rcases z with z | z
     ·rw[z,k1]at e
      cases e
     ·rw[z,k2]at e
      cases e
    ·rw[if_neg z]
     by_cases z2:b=a
     ·have e2:=KX b o e
      rw[z2,ho]at e2
      cases e2
      exact absurd rfl (XX nol e)
     ·rw[if_neg z2]
   have base_of:∀{b:Addr} {o:Obj},s1.heap.get? b=some o→H b=none→(Mq s1.heap H).get? b=some o:=fun e n=>Zc e n
   have nsK:∀{b:Addr} {m:Str→Option Value},s1.heap.Ns b m→(Mq s1.heap H).Ns b m:=fun{b m} ⟨o,es,ep,e,d,r⟩=>⟨o,es,ep,base_of e (off e (fun vs z=>by rw[d]at z;cases z) fun vs n z=>by rw[d]at z;cases z),d,r⟩
   have hKb:K.In (Mq s1.heap H):=fun b o e=>base_of (KX b o e) (nK b o e)
   have hM:Mod K mg (Mq s1.heap H):=⟨hKb,nsK hns,⟨mb,nsK hb,hbb⟩,let ⟨mc,h1,h2⟩:=hlim;⟨mc,nsK h1,h2⟩⟩
   have e0:Up P w K mg (Mq s1.heap H) callerA [] s1 H:=⟨rfl,hM,fun b o e=>abJ e,Nat.le_of_eq (Xu _ _),trivial,fun b hb=>absurd (show b∈([]:List Addr)from hb) (by simp),ok,.of_eq hg⟩
   have hB:adY mg (Mq s1.heap H):=by
    obtain⟨bm,ob,g1,g2,g3,g4,g5,g6⟩:=hbm
    refine⟨bm,ob,g1,g2,fun z=>?_,base_of g3 (off g3 (fun vs z=>by rw[g6]at z;cases z) fun vs n z=>by rw[g6]at z;cases z),g4,g5,g6⟩
    obtain⟨o,es,ep,e,d,_⟩:=hns
    rw[z,e]at g3
    cases g3
    rw[d]at g6
    cases g6
   refine codeAny_mono ((F _ hKb hB).run callerA [] s1 H ⟨[.ref a],[]⟩ [.ref a] [.ref a] _ _ hr e0 (hbind s1 [.ref a] KX rfl) (.cons rfl .nil) (hsp H a _ ha (.inr ⟨_,rfl⟩) hp1 hp2)) fun r s' x=>?_
   cases r with
   |error e=>exact False.elim x
   |ok fl =>
    cases fl with
    |next=>exact False.elim x
    |brk=>exact False.elim x
    |cont=>exact False.elim x
    |ret u =>
     obtain⟨v,H',os,bare,un,ok',r',q⟩:=x
     obtain⟨l,rfl,hl⟩:=q
     cases r'
     obtain⟨_,its,n,hvo,e⟩:=(show iz P w H' s'.heap l (.lst (out.map V.int))from ok' l _ hl)
     obtain⟨as,hrd⟩:=IW (R:=R) (cl:=cl) (h:=s'.heap) out its hvo
     have tab:∀b,(b=p1∨b=p2)→∃more,s'.heap.get? b=some {cls:=.none,data:=.fields (#[]++more)}:=fun b z=>by
      obtain⟨more,hm⟩:=un.J0 b #[] (by rw[at_,if_pos z])
      exact⟨more,ok' b _ hm⟩
     have kept:∀b o,s1.heap.get? b=some o→¬(b=p1∨b=p2)→s'.heap.get? b=some o:=fun b o e z=>by
      by_cases z2:b=a
      ·subst z2
       have hh:=un.Le b _ _ ha
       obtain⟨e2,_⟩:=ok' b _ hh
       rw[ho]at e
       cases e
       exact e2
      ·exact un.keep b o e (by rw[at_,if_neg z,if_neg z2]) (by intro z;exact absurd (show b∈([]:List Addr)from z) (by simp)) (by simp)
     have isT:∀b,(b=p1∨b=p2)→isCodeTable s1.heap b:=fun b z=>by
      rcases z with rfl|rfl
      ·exact t1
      ·exact t2
     refine⟨.ref l,_,rfl,ReadsW.list e rfl rfl hrd,⟨fun b o e=>?_,fun b o e=>?_⟩,os,bare⟩
     ·by_cases z:b=p1∨b=p2
      ·obtain⟨more,hm⟩:=tab b z
       rw[tb b z]at e
       cases e
       exact .inr (.inl ⟨isT b z,rfl,#[],more,rfl,hm⟩)
      ·exact .inl (kept b o e z)
     ·by_cases z:b=p1∨b=p2
      ·obtain⟨more,hm⟩:=tab b z
       exact⟨_,hm⟩
      ·exact⟨o,kept b o e z⟩
def aby:List DictEntry→Option (List (Int×Addr))
 |[]=>some []
 |e::r=>match e.key,e.val,aby r with
  |.int n _,.ref t,some l=>if e.hash=hashInt n then some ((n,t)::l)else none
  |_,_,_=>none
theorem Ja(P:Program)(w:World):∀{es:List DictEntry} {l:List (Int×Addr)},aby es=some l→(∀e∈es,∃k,(e_ P w).is k e.key=true∧e.hash=(e_ P w).hash k)∧Pairs (e_ P w) es (l.map fun q=>((Sum.inl q.1:Key),Value.ref q.2))
 |[],l,h=>by
  cases h
  exact⟨fun e m=>absurd m (by simp),.nil⟩
 |e::r,l,h=>by
  unfold aby at h
  split at h
  ·rename_i n tk t l' hk hv hr
   split at h
   ·rename_i hh
    cases h
    obtain⟨i1,i2⟩:=Ja P w hr
    refine⟨fun e' m=>?_,.cons (by rw[hk];exact zM P w n tk) hv i2⟩
    rcases List.mem_cons.mp m with z|z
    ·rw[z,hk]
     exact⟨Sum.inl n,zM P w n tk,hh⟩
    ·exact i1 _ z
   ·cases h
  ·cases h
def aaN(K:PySem.W.Frag)(t:Addr)(n k:Nat):Bool:=match K.lookup t with
 |some o=>o.cls==.type "tuple"&&(match o.data with
  |.seq its _=>(match its.toList with
   |[.int x _,.int y _]=>x==(n:Int)&&y==(k:Int)
   |_=>false)
  |_=>false)
 |none=>false
theorem aaA{K:PySem.W.Frag}{t:Addr}{n k:Nat}(h:aaN K t n k=true)(H:Hp):SqT K H t [.int n,.int k]:=by
 unfold aaN at h
 split at h
 ·rename_i o hk
  obtain⟨h1,h2⟩:=Bool.and_eq_true_iff.mp h
  split at h2
  ·rename_i its m hd
   split at h2
   ·rename_i x tx y ty hl
    obtain⟨h3,h4⟩:=Bool.and_eq_true_iff.mp h2
    have ex:x=(n:Int):=beq_iff_eq.mp h3
    have ey:y=(k:Int):=beq_iff_eq.mp h4
    subst ex ey
    refine .inr ⟨o,its,m,hk,beq_iff_eq.mp h1,hd,?_,?_⟩
    ·rw[← Array.length_toList,hl]
     show 2≤sizeLine
     decide
    ·rw[hl]
     exact .cons ⟨_,rfl⟩ (.cons ⟨_,rfl⟩ .nil)
   ·cases h2
  ·cases h2
 ·cases h
def adG(K:PySem.W.Frag)(l:List (Int×Addr)):Bool:=(List.range 26).all fun i=>match PyVbbhaj.shape (i:Int),l.lookup (i:Int)with
 |some (n,k),some t=>aaN K t n k
 |none,_=>true
 |_,none=>false
def Kv(K:PySem.W.Frag)(a:Addr):Bool:=match K.lookup a with
 |some o=>o.cls==.type "dict"&&o.dict.isNone&&o.slots.isEmpty&&(match o.data with
  |.dict es _=>(match aby es.toList with
   |some l=>decide ((l.map (·.1)).Nodup)&&adG K l
   |none=>false)
  |_=>false)
 |none=>false
theorem JX:∀{l:List (Int×Addr)} {p:Int} {t:Addr},l.lookup p=some t→valueAt (l.map fun q=>((Sum.inl q.1:Key),Value.ref q.2)) (Sum.inl p:Key)=some (.ref t)
 |[],p,t,h=>by cases h
 |(n,u)::r,p,t,h=>by
  rw[List.lookup_cons]at h
  unfold valueAt
  rw[List.map_cons,List.find?_cons]
  cases q:p==n with
  |true =>
   rw[q]at h
   cases h
   rw[beq_iff_eq.mp q,decide_eq_true rfl]
   rfl
  |false =>
   rw[q]at h
   have ne:¬(Sum.inl n:Key)=Sum.inl p:=fun z=>by
    rw[Sum.inl.inj z,beq_self_eq_true]at q
    cases q
   rw[decide_eq_false ne]
   exact JX h
theorem X6{K:PySem.W.Frag}{mg:Str→Option Value}{a:Addr}(hm:mg "SHAPES" = some (.ref a))(h:Kv K a=true):yU K mg:=by
 unfold Kv at h
 split at h
 ·rename_i o hk
  obtain⟨h,h4⟩:=Bool.and_eq_true_iff.mp h
  obtain⟨h,h3⟩:=Bool.and_eq_true_iff.mp h
  obtain⟨h1,h2⟩:=Bool.and_eq_true_iff.mp h
  split at h4
  ·rename_i es ep hd
   split at h4
   ·rename_i l hl
    obtain⟨h5,h6⟩:=Bool.and_eq_true_iff.mp h4
    refine⟨a,l.map fun q=>((Sum.inl q.1:Key),Value.ref q.2),hm,fun P w h KX=>?_,fun p n k hs=>?_⟩
    ·obtain⟨i1,i2⟩:=Ja P w hl
     refine⟨o,es,ep,KX a o hk,⟨beq_iff_eq.mp h1,Option.isNone_iff_eq_none.mp h2,Array.isEmpty_iff.mp h3⟩,hd,fun e m=>i1 e (Array.mem_toList_iff.mpr m),i2,?_⟩
     rw[List.map_map]
     have:=of_decide_eq_true h5
     rw[show((fun x:Key×Value=>x.1)∘fun q:Int×Addr=>((Sum.inl q.1:Key),Value.ref q.2))=(fun z:Int=>(Sum.inl z:Key))∘(fun x:Int×Addr=>x.1)from rfl,← List.map_map]
     exact List.pairwise_map.mpr (List.Pairwise.imp (fun ne z=>ne (Sum.inl.inj z)) this)
    ·obtain⟨g1,g2⟩:=zq hs
     obtain⟨i,rfl⟩:∃i:Nat,p=(i:Int):=⟨p.toNat,by omega⟩
     have:=List.all_eq_true.mp h6 i (List.mem_range.mpr (by omega))
     rw[hs]at this
     cases q:l.lookup (i:Int)with
     |none =>
      rw[q]at this
      cases this
     |some t =>
      rw[q]at this
      exact⟨t,JX q,fun H=>aaA this H⟩
   ·cases h4
  ·cases h4
 ·cases h
def aM(x qual:Str)(st:Stmt)(ps:List Str):Prop:=∀(kV doc pm:Value) (an:Option Addr) (cdv ct:Value) (us:List Value),us.length=ps.length→bindArgs (PySem.W.fnOf x qual (vH st) (ql st) (aA st) .none kV doc pm an cdv ct) ⟨us,[]⟩=pure (ps.zip us)
theorem YS:aM "is_cap" "is_cap" Gz ["n"]:=fun _ _ _ _ _ _ us hl=>match us,hl with | [_],_=>rfl
theorem abw:aM "is_k" "is_k" QK ["n"]:=fun _ _ _ _ _ _ us hl=>match us,hl with | [_],_=>rfl
theorem abK:aM "is_a" "is_a" Qi ["n"]:=fun _ _ _ _ _ _ us hl=>match us,hl with | [_],_=>rfl
theorem G7:aM "is_job_number" "is_job_number" qQ ["n"]:=fun _ _ _ _ _ _ us hl=>match us,hl with | [_],_=>rfl
theorem Rn:aM "is_class" "is_class" zK ["n"]:=fun _ _ _ _ _ _ us hl=>match us,hl with | [_],_=>rfl
theorem KN:aM "is_priority" "is_priority" u5 ["n"]:=fun _ _ _ _ _ _ us hl=>match us,hl with | [_],_=>rfl
theorem Ii:aM "is_yes_or_no" "is_yes_or_no" tL ["n"]:=fun _ _ _ _ _ _ us hl=>match us,hl with | [_],_=>rfl
theorem VB:aM "is_code" "is_code" Ck ["n"]:=fun _ _ _ _ _ _ us hl=>match us,hl with | [_],_=>rfl
theorem Q8:aM "is_ticks" "is_ticks" zW ["n"]:=fun _ _ _ _ _ _ us hl=>match us,hl with | [_],_=>rfl
theorem SJ:aM "is_limit" "is_limit" zL ["n"]:=fun _ _ _ _ _ _ us hl=>match us,hl with | [_],_=>rfl
theorem HJ:aM "is_initiator" "is_initiator" tR ["n"]:=fun _ _ _ _ _ _ us hl=>match us,hl with | [_],_=>rfl
theorem Qw:aM "is_letter" "is_letter" yc ["byte"]:=fun _ _ _ _ _ _ us hl=>match us,hl with | [_],_=>rfl
theorem R5:aM "is_digit" "is_digit" z8 ["byte"]:=fun _ _ _ _ _ _ us hl=>match us,hl with | [_],_=>rfl
theorem VD:aM "is_name" "is_name" Dq ["row"]:=fun _ _ _ _ _ _ us hl=>match us,hl with | [_],_=>rfl
theorem FW:aM "is_class_list" "is_class_list" rG ["row"]:=fun _ _ _ _ _ _ us hl=>match us,hl with | [_],_=>rfl
theorem Cm:aM "is_row_of_tests" "is_row_of_tests" oh ["row"]:=fun _ _ _ _ _ _ us hl=>match us,hl with | [_],_=>rfl
theorem Ke:aM "split_tests" "split_tests" pF ["row"]:=fun _ _ _ _ _ _ us hl=>match us,hl with | [_],_=>rfl
theorem T9:aM "is_test" "is_test" Cq ["job","kind","n"]:=fun _ _ _ _ _ _ us hl=>match us,hl with | [_,_,_],_=>rfl
theorem Vw:aM "counted" "counted" Cy ["row"]:=fun _ _ _ _ _ _ us hl=>match us,hl with | [_],_=>rfl
theorem O5:aM "has_ended" "has_ended" yE ["job"]:=fun _ _ _ _ _ _ us hl=>match us,hl with | [_],_=>rfl
theorem Rc:aM "is_ready" "is_ready" y_ ["job"]:=fun _ _ _ _ _ _ us hl=>match us,hl with | [_],_=>rfl
theorem YK:aM "is_due" "is_due" G8 ["job"]:=fun _ _ _ _ _ _ us hl=>match us,hl with | [_],_=>rfl
theorem Vb:aM "rank_of" "rank_of" Dk ["job","a"]:=fun _ _ _ _ _ _ us hl=>match us,hl with | [_,_],_=>rfl
theorem Yh:aM "is_met" "is_met" Fx ["kind","n","state","code"]:=fun _ _ _ _ _ _ us hl=>match us,hl with | [_,_,_,_],_=>rfl
theorem Q5:aM "all_jobs" "all_jobs" vG ["board"]:=fun _ _ _ _ _ _ us hl=>match us,hl with | [_],_=>rfl
theorem HN:aM "running_jobs" "running_jobs" nY ["board"]:=fun _ _ _ _ _ _ us hl=>match us,hl with | [_],_=>rfl
theorem zA:aM "how_many_of_class" "how_many_of_class" ik ["jobs","class_of"]:=fun _ _ _ _ _ _ us hl=>match us,hl with | [_,_],_=>rfl
theorem DW:aM "refusal_of_job" "refusal_of_job" qd ["board","number"]:=fun _ _ _ _ _ _ us hl=>match us,hl with | [_,_],_=>rfl
theorem J7:aM "limit_class" "limit_class" vp ["board","class_of","n"]:=fun _ _ _ _ _ _ us hl=>match us,hl with | [_,_,_],_=>rfl
theorem Ms:aM "set_closed" "set_closed" wH ["board","class_of","closed"]:=fun _ _ _ _ _ _ us hl=>match us,hl with | [_,_,_],_=>rfl
theorem Jd:aM "close_class" "close_class" vA ["board","class_of"]:=fun _ _ _ _ _ _ us hl=>match us,hl with | [_,_],_=>rfl
theorem Mz:aM "open_class" "open_class" vX ["board","class_of"]:=fun _ _ _ _ _ _ us hl=>match us,hl with | [_,_],_=>rfl
theorem Cu:aM "has_failed_test" "has_failed_test" oU ["jobs","tests"]:=fun _ _ _ _ _ _ us hl=>match us,hl with | [_,_],_=>rfl
theorem Bp:aM "tests_still_open" "tests_still_open" iM ["jobs","tests"]:=fun _ _ _ _ _ _ us hl=>match us,hl with | [_,_],_=>rfl
theorem Ma:aM "mark_ended" "mark_ended" wG ["job","state","code"]:=fun _ _ _ _ _ _ us hl=>match us,hl with | [_,_,_],_=>rfl
theorem Uu:aM "end_job" "end_job" Dc ["jobs","job","state","code"]:=fun _ _ _ _ _ _ us hl=>match us,hl with | [_,_,_,_],_=>rfl
theorem zu:aM "lets_one_more_run" "lets_one_more_run" kY ["board","class_of","running"]:=fun _ _ _ _ _ _ us hl=>match us,hl with | [_,_,_],_=>rfl
theorem O_:aM "free_jobs" "free_jobs" jC ["board","initiator"]:=fun _ _ _ _ _ _ us hl=>match us,hl with | [_,_],_=>rfl
theorem LQ:aM "chosen_job" "chosen_job" iG ["board","initiator","free"]:=fun _ _ _ _ _ _ us hl=>match us,hl with | [_,_,_],_=>rfl
theorem O2:aM "pass_over" "pass_over" yr ["board","jobs"]:=fun _ _ _ _ _ _ us hl=>match us,hl with | [_,_],_=>rfl
theorem CZ:aM "refusal_of_list" "refusal_of_list" oJ ["number","classes"]:=fun _ _ _ _ _ _ us hl=>match us,hl with | [_,_],_=>rfl
theorem yV:aM "refusal_unless_on" "refusal_unless_on" lF ["board","number"]:=fun _ _ _ _ _ _ us hl=>match us,hl with | [_,_],_=>rfl
theorem yt:aM "refusal_unless_idle" "refusal_unless_idle" jE ["board","number"]:=fun _ _ _ _ _ _ us hl=>match us,hl with | [_,_],_=>rfl
theorem xQ:aM "refusal_unless_busy" "refusal_unless_busy" jw ["board","number"]:=fun _ _ _ _ _ _ us hl=>match us,hl with | [_,_],_=>rfl
theorem aa4:aM "start" "start" Ju ["board","number","classes"]:=fun _ _ _ _ _ _ us hl=>match us,hl with | [_,_,_],_=>rfl
theorem aae:aM "serve" "serve" I_ ["board","number","classes"]:=fun _ _ _ _ _ _ us hl=>match us,hl with | [_,_,_],_=>rfl
theorem MK:aM "switch_off" "switch_off" vO ["initiator"]:=fun _ _ _ _ _ _ us hl=>match us,hl with | [_],_=>rfl
theorem FT:aM "take_job_away" "take_job_away" qZ ["initiator"]:=fun _ _ _ _ _ _ us hl=>match us,hl with | [_],_=>rfl
theorem Z0:aM "drain" "drain" Lq ["board","number"]:=fun _ _ _ _ _ _ us hl=>match us,hl with | [_,_],_=>rfl
theorem Vq:aM "run_job" "run_job" Dv ["initiator","job"]:=fun _ _ _ _ _ _ us hl=>match us,hl with | [_,_],_=>rfl
theorem abQ:aM "pick" "pick" Iw ["board","number"]:=fun _ _ _ _ _ _ us hl=>match us,hl with | [_,_],_=>rfl
theorem abt:aM "peek" "peek" OJ ["board","number"]:=fun _ _ _ _ _ _ us hl=>match us,hl with | [_,_],_=>rfl
theorem X4:aM "finish" "finish" Fy ["board","number","abend","code"]:=fun _ _ _ _ _ _ us hl=>match us,hl with | [_,_,_,_],_=>rfl
theorem Uy:aM "requeue" "requeue" Du ["board","number"]:=fun _ _ _ _ _ _ us hl=>match us,hl with | [_,_],_=>rfl
theorem vB:aM "refusal_of_waiting_job" "refusal_of_waiting_job" gY ["board","number"]:=fun _ _ _ _ _ _ us hl=>match us,hl with | [_,_],_=>rfl
theorem Y9:aM "begin" "begin" Lk ["board","cap","k","a"]:=fun _ _ _ _ _ _ us hl=>match us,hl with | [_,_,_,_],_=>rfl
theorem Bw:aM "refusal_of_tests" "refusal_of_tests" m8 ["board","tests"]:=fun _ _ _ _ _ _ us hl=>match us,hl with | [_,_],_=>rfl
theorem Uo:aM "is_full" "is_full" Dj ["board"]:=fun _ _ _ _ _ _ us hl=>match us,hl with | [_],_=>rfl
theorem z_:aM "refusal_of_submit" "refusal_of_submit" k_ ["board","class_of","priority","held","name","row"]:=fun _ _ _ _ _ _ us hl=>match us,hl with | [_,_,_,_,_,_],_=>rfl
theorem YF:aM "submit" "submit" GK ["board","class_of","priority","held","name","row"]:=fun _ _ _ _ _ _ us hl=>match us,hl with | [_,_,_,_,_,_],_=>rfl
theorem Sw:aM "set_held" "set_held" yQ ["board","number","held"]:=fun _ _ _ _ _ _ us hl=>match us,hl with | [_,_,_],_=>rfl
theorem abS:aM "hold" "hold" Qk ["board","number"]:=fun _ _ _ _ _ _ us hl=>match us,hl with | [_,_],_=>rfl
theorem ZG:aM "letgo" "letgo" K4 ["board","number"]:=fun _ _ _ _ _ _ us hl=>match us,hl with | [_,_],_=>rfl
theorem Xm:aM "change" "change" G_ ["board","number","class_of","priority"]:=fun _ _ _ _ _ _ us hl=>match us,hl with | [_,_,_,_],_=>rfl
theorem X7:aM "cancel" "cancel" GJ ["board","number"]:=fun _ _ _ _ _ _ us hl=>match us,hl with | [_,_],_=>rfl
theorem XJ:aM "forget" "forget" Gp ["board","number"]:=fun _ _ _ _ _ _ us hl=>match us,hl with | [_,_],_=>rfl
theorem abi:aM "tick" "tick" PJ ["board","n"]:=fun _ _ _ _ _ _ us hl=>match us,hl with | [_,_],_=>rfl
theorem HH:aM "waiting_jobs" "waiting_jobs" nZ ["board"]:=fun _ _ _ _ _ _ us hl=>match us,hl with | [_],_=>rfl
theorem MP:aM "ready_jobs" "ready_jobs" rY ["board"]:=fun _ _ _ _ _ _ us hl=>match us,hl with | [_],_=>rfl
theorem M3:aM "tell_order" "tell_order" dN ["board","class_of"]:=fun _ _ _ _ _ _ us hl=>match us,hl with | [_,_],_=>rfl
theorem Df:aM "place_among_due" "place_among_due" jJ ["board","job"]:=fun _ _ _ _ _ _ us hl=>match us,hl with | [_,_],_=>rfl
theorem Kd:aM "tell_status" "tell_status" uT ["board","number"]:=fun _ _ _ _ _ _ us hl=>match us,hl with | [_,_],_=>rfl
theorem Mj:aM "tell_tests" "tell_tests" vM ["board","number"]:=fun _ _ _ _ _ _ us hl=>match us,hl with | [_,_],_=>rfl
theorem Qe:aM "names_job" "names_job" uq ["tests","number"]:=fun _ _ _ _ _ _ us hl=>match us,hl with | [_,_],_=>rfl
theorem Mw:aM "tell_after" "tell_after" rR ["board","number"]:=fun _ _ _ _ _ _ us hl=>match us,hl with | [_,_],_=>rfl
theorem Ih:aM "tell_running" "tell_running" tQ ["board"]:=fun _ _ _ _ _ _ us hl=>match us,hl with | [_],_=>rfl
theorem Kh:aM "tell_counts" "tell_counts" u0 ["board"]:=fun _ _ _ _ _ _ us hl=>match us,hl with | [_],_=>rfl
theorem Fe:aM "tell_initiator" "tell_initiator" pQ ["board","number"]:=fun _ _ _ _ _ _ us hl=>match us,hl with | [_,_],_=>rfl
theorem Lw:aM "tell_class" "tell_class" wA ["board","class_of"]:=fun _ _ _ _ _ _ us hl=>match us,hl with | [_,_],_=>rfl
theorem Et:aM "answer_on_jobs" "answer_on_jobs" qi ["board","call","numbers","rows"]:=fun _ _ _ _ _ _ us hl=>match us,hl with | [_,_,_,_],_=>rfl
theorem zy:aM "answer_on_classes" "answer_on_classes" lz ["board","call","numbers"]:=fun _ _ _ _ _ _ us hl=>match us,hl with | [_,_,_],_=>rfl
theorem xf:aM "answer_on_initiators" "answer_on_initiators" iZ ["board","call","numbers","rows"]:=fun _ _ _ _ _ _ us hl=>match us,hl with | [_,_,_,_],_=>rfl
theorem CV:aM "answer_question" "answer_question" oN ["board","call","numbers"]:=fun _ _ _ _ _ _ us hl=>match us,hl with | [_,_,_],_=>rfl
theorem Ky:aM "answer_next" "answer_next" lu ["board","reader"]:=fun _ _ _ _ _ _ us hl=>match us,hl with | [_,_],_=>rfl
theorem MJ:aM "answers_on" "answers_on" wF ["board","calls"]:=fun _ _ _ _ _ _ us hl=>match us,hl with | [_,_],_=>rfl
theorem Ue:aM "answers" "answers" Cr ["calls"]:=fun _ _ _ _ _ _ us hl=>match us,hl with | [_],_=>rfl
theorem SM:aM "__init__" "Job.__init__" Ae ["self","number","name","class_of","priority","held","tests"]:=fun _ _ _ _ _ _ us hl=>match us,hl with | [_,_,_,_,_,_,_],_=>rfl
theorem DQ:aM "__init__" "Initiator.__init__" p7 ["self"]:=fun _ _ _ _ _ _ us hl=>match us,hl with | [_],_=>rfl
theorem Mf:aM "__init__" "Board.__init__" v5 ["self","cap","k","a"]:=fun _ _ _ _ _ _ us hl=>match us,hl with | [_,_,_,_],_=>rfl
theorem J2:aM "renew" "Board.renew" u_ ["self","cap","k","a"]:=fun _ _ _ _ _ _ us hl=>match us,hl with | [_,_,_,_],_=>rfl
theorem Lh:aM "__init__" "Reader.__init__" uJ ["self","calls"]:=fun _ _ _ _ _ _ us hl=>match us,hl with | [_,_],_=>rfl
theorem Bq:aM "is_at_end" "Reader.is_at_end" m5 ["self"]:=fun _ _ _ _ _ _ us hl=>match us,hl with | [_],_=>rfl
theorem yO:aM "take_number" "Reader.take_number" j5 ["self"]:=fun _ _ _ _ _ _ us hl=>match us,hl with | [_],_=>rfl
theorem CQ:aM "take_row" "Reader.take_row" oW ["self"]:=fun _ _ _ _ _ _ us hl=>match us,hl with | [_],_=>rfl
section
variable {K:PySem.W.Frag}{h:Heap}{mg:Str→Option Value}{x qual:Str}{st:Stmt}{ps:List Str}{f C a:Addr}{oc kV doc pm cdv ct:Value}{od an:Option Addr}{osl:Array (Option Value)}
def bZ(X:K.In h)(G:h.Ns mainGlobals mg)(b:aM x qual st ps)(a:PySem.W.nsIn K mainGlobals x=some (some (.ref f)))
  (l:K.lookup f=some ⟨oc,od,.func (PySem.W.fnOf x qual (vH st) (ql st) (aA st) .none kV doc pm an cdv ct),osl⟩) (c:PySem.W.codeIn K cdv qual=true) (k:PySem.W.keepIn K (.ref f)=true):bV K mg x qual st ps :=
 ⟨f,_,Q0 l c k,(Q0 l c k).binds b,PySem.W.mg_of X G a⟩
theorem acf{n:Addr}(X:K.In h)(G:h.Ns mainGlobals mg)(b:aM x qual st ps)(a:PySem.W.nsIn K mainGlobals x=some (some (.ref f)))
  (l:K.lookup f=some ⟨oc,od,.func (PySem.W.fnOf x qual (vH st) (ql st) (aA st) .none kV doc pm an cdv ct),osl⟩) (c:PySem.W.codeIn K cdv qual=true) (k:PySem.W.keepIn K (.ref f)=true) (hc:cdv=.ref n):∃d:bV K mg x qual st ps,d.fd.code=.ref n :=
 ⟨bZ X G b a l c k,hc⟩
def Tf(_:K.In h)(b:aM x qual st ps)(a:PySem.W.findIn K (.ref C) x=some (some (.ref f)))(i:PySem.W.isFn K (.ref f)=true)
  (l:K.lookup f=some ⟨oc,od,.func (PySem.W.fnOf x qual (vH st) (ql st) (aA st) .none kV doc pm an cdv ct),osl⟩) (c:PySem.W.codeIn K cdv qual=true) (k:PySem.W.keepIn K (.ref f)=true):KC K C x qual st ps :=
 ⟨f,_,Q0 l c k,(Q0 l c k).binds b,⟨a,i,k⟩⟩
theorem bD{n:Int}{t:Tok}(X:K.In h)(G:h.Ns mainGlobals mg)(a:PySem.W.nsIn K mainGlobals x=some (some (.int n t))):∃t,mg x=some (.int n t):=⟨t,PySem.W.mg_of X G a⟩
theorem P_(_:K.In h)(pg:PySem.W.plainGet K C Str.empty=true)(hd:PySem.W.hasDictIn K C=true)(po:PySem.W.plainOver K C=true)(sa:PySem.W.findIn K (.ref C) "__setattr__" = some (some (.builtin "object.__setattr__"))):Cls K C:=⟨pg,hd,po,sa⟩
theorem abY(X:K.In h)(G:h.Ns mainGlobals mg)(m:Meth K C "__init__" f)(mk:PySem.W.makesIn K C=true)(kc:PySem.W.keepIn K (.ref C)=true)(a:PySem.W.nsIn K mainGlobals x=some (some (.ref C))):Uq K mg C x f:=⟨⟨mk,m.at_,m.fn,kc⟩,PySem.W.mg_of X G a⟩
theorem iU(_:K.In h)(e:PySem.W.findIn K (.ref C) x=some none):cJ K C x:=e
theorem Ym(X:K.In h)(G:h.Ns mainGlobals mg)(e:PySem.W.nsIn K mainGlobals "SHAPES" = some (some (.ref a)))(q:Kv K a=true):yU K mg:=X6 (PySem.W.mg_of X G e) q
theorem abV{f fa:Addr}(a:mg x=some (.ref f))(b:mg x=some (.ref fa)):f=fa:=by
 rw[a]at b
 cases b
 rfl
end
structure adK(K:PySem.W.Frag)(mg:Str→Option Value)(fa p1 p2 c1 c2:Addr):Prop where
 txt:∃T:Txt K mg,T.mR=p1∧T.mH=p2∧T.mG.f=fa∧T.dY.fd.code=.ref c1∧T.fJ.fd.code=.ref c2
 sh:yU K mg
 ne:p1≠p2
 h1:PySem.W.codeHdIn K c1 p1=true
 h2:PySem.W.codeHdIn K c2 p2=true
 k1:K.lookup p1=none
 k2:K.lookup p2=none
 nol:VL K=true
theorem N7{H:Hp}{p:Addr}{qual:Str}(h:H p=some (.tbl #[])):TabAt H p qual:=⟨#[],h,trivial,fun pos cv z=>by cases z⟩
theorem Zo{q:Program}{loose:List Str}{XP:(Str→Option Value)→Heap→Prop}{YP:World→Heap→Prop}{d:DefRec}{K:Params→PySem.W.Frag}{p1 p2 c1 c2:Addr}
  (hwell:PySem.Challenge.rw_jobqueue_s01_answers.wellSaid=true) (hr:jF 9 callerA)
  (hY:∀(w:World) (h:Heap),YP w h→(K w.params).In h∧h.get? p1=some (PySem.W.tabObj #[])∧h.get? p2=some (PySem.W.tabObj #[]))
  (F:∀(w:World) (mg:Str→Option Value) (fa:Addr) (h:Heap),(K w.params).In h→h.Ns mainGlobals mg→mg d.name=some (.ref fa)→adK (K w.params) mg fa p1 p2 c1 c2) :
  PySem.W.WalkOS q loose XP YP PySem.Challenge.rw_jobqueue_s01_answers d [] (fun f vs=>PySem.call f vs):=by
 intro w s_0 s1 mg mb G Y fa o pm cd doc dV kV ho hd hcd hD hmg hg args vals as hpre hlay hrd hwl hlo
 obtain⟨a,e1,e2⟩:=PySem.W.os_pre_some hpre
 obtain⟨e3,hwi⟩:=Codec.encAll_of_decAll PySem.Challenge.rw_jobqueue_s01_answers.args args a e1
 subst e3
 obtain⟨KX,g1,g2⟩:=hY w _ Y
 have Z:=F w mg fa _ KX G.T.g hmg
 obtain⟨T,rfl,rfl,rfl,q1,q2⟩:=Z.txt
 obtain⟨l,_⟩:=a
 have hwj:((Codec.inLen 0 16000 l&&l.all (Codec.inInt (-9223372036854775808) 9223372036854775807))&&true)=true:=hwi
 rw[Bool.and_eq_true,Bool.and_eq_true]at hwj
 have hlen:l.length≤16000:=(Codec.inNat_iff.mp hwj.1.1).2
 obtain⟨cs,hcs,has,hc,hans⟩:=Ut (l:=l) e2
 have hw2:WellAll w.params s1.heap vals [.list (l.map WData.int)]:=hwl
 refine PySem.W.enter_call (codeAny_mono (aau (R:=[]) (cl:=PySem.classAt s_0.heap) (ns:=l) (out:=PyVbbhaj.answers l) (sp:=acg T) (fd:=T.mG.fd) KX G.T.g G.T.b G.T.builtins G.T.nolimit hg G.T.bmain hw2 (by rw[sizeLine_eq];omega) Z.nol g1 g2 Z.k1 Z.k2
  ((PySem.W.codeHd_of_K KX Z.h1).tab g1).isCodeTable ((PySem.W.codeHd_of_K KX Z.h2).tab g2).isCodeTable hr
  (fun base KB hB=>V6 T ⟨Z.ne,⟨_,q1,fun h KH=>PySem.W.codeHd_of_K KH Z.h1⟩,⟨_,q2,fun h KH=>PySem.W.codeHd_of_K KH Z.h2⟩,hB,Z.sh⟩) T.mG.b
  fun H lc lo hl hR t1 t2=>⟨lc,lo,l,cs,_,rfl,hl,hR,by omega,hcs,has,hc,⟨N7 t1,N7 t2⟩,fun v H' h=>by rw[hans];exact h⟩) fun r' s' hq=>?_)
 obtain⟨u,as',rfl,h1,h2,h3,h4⟩:=hq
 exact⟨.inl ⟨u,_,as',rfl,fun _=>rfl,h1,(OpenSpec.post_iff hwell hwi _ _).mpr rfl,fun z=>Bool.noConfusion (show false=true from z)⟩,h2,h3,h4⟩
end Jq
end
open PySem PySem.W PyProof.Rows
local macro_rules | `(tactic| o_headS ($f $k $a $p)) => `(tactic| o_headS (PySem.W.kmHook $k $a $p [340, 549]))
set_option maxRecDepth 100000 in
set_option maxHeartbeats 0 in
theorem PySem.Challenge.cw_jobqueue_s01_answers_holds : PySem.Challenge.rw_jobqueue_s01_answers.Holds := by
  w_on; k_headS; (case hw => exact ⟨[.list [.int 23]], by decide +kernel, by decide +kernel⟩)
  k_fillS
  refine Jq.Zo (p1 := 340) (p2 := 549) (c1 := 342) (c2 := 551) (by decide +kernel) ⟨rfl, by decide, by decide⟩ (fun w h Y => ⟨PySem.W.km_in_of Y, PySem.W.km_tabs_of Y 340 (by decide), PySem.W.km_tabs_of Y 549 (by decide)⟩) ?_
  intro w mg fa h KX G hmg
  have xM := Jq.bZ KX G Jq.YS (by k_is) (by k_is) (by k_is) (by k_is)
  have FJ := Jq.bZ KX G Jq.abw (by k_is) (by k_is) (by k_is) (by k_is)
  have Gn := Jq.bZ KX G Jq.abK (by k_is) (by k_is) (by k_is) (by k_is)
  have gf := Jq.bZ KX G Jq.G7 (by k_is) (by k_is) (by k_is) (by k_is)
  have fW := Jq.bZ KX G Jq.Rn (by k_is) (by k_is) (by k_is) (by k_is)
  have iD := Jq.bZ KX G Jq.KN (by k_is) (by k_is) (by k_is) (by k_is)
  have gH := Jq.bZ KX G Jq.Ii (by k_is) (by k_is) (by k_is) (by k_is)
  have qY := Jq.bZ KX G Jq.VB (by k_is) (by k_is) (by k_is) (by k_is)
  have rH := Jq.bZ KX G Jq.Q8 (by k_is) (by k_is) (by k_is) (by k_is)
  have rD := Jq.bZ KX G Jq.SJ (by k_is) (by k_is) (by k_is) (by k_is)
  have eE := Jq.bZ KX G Jq.HJ (by k_is) (by k_is) (by k_is) (by k_is)
  have kO := Jq.bZ KX G Jq.Qw (by k_is) (by k_is) (by k_is) (by k_is)
  have rK := Jq.bZ KX G Jq.R5 (by k_is) (by k_is) (by k_is) (by k_is)
  have uC := Jq.bZ KX G Jq.VD (by k_is) (by k_is) (by k_is) (by k_is)
  have gZ := Jq.bZ KX G Jq.FW (by k_is) (by k_is) (by k_is) (by k_is)
  have fU := Jq.bZ KX G Jq.Cm (by k_is) (by k_is) (by k_is) (by k_is)
  have iI := Jq.bZ KX G Jq.Ke (by k_is) (by k_is) (by k_is) (by k_is)
  have uA := Jq.bZ KX G Jq.T9 (by k_is) (by k_is) (by k_is) (by k_is)
  have dJ := Jq.bZ KX G Jq.Vw (by k_is) (by k_is) (by k_is) (by k_is)
  have jo := Jq.bZ KX G Jq.O5 (by k_is) (by k_is) (by k_is) (by k_is)
  have lD := Jq.bZ KX G Jq.Rc (by k_is) (by k_is) (by k_is) (by k_is)
  have lN := Jq.bZ KX G Jq.YK (by k_is) (by k_is) (by k_is) (by k_is)
  have ph := Jq.bZ KX G Jq.Vb (by k_is) (by k_is) (by k_is) (by k_is)
  have wY := Jq.bZ KX G Jq.Yh (by k_is) (by k_is) (by k_is) (by k_is)
  have gG := Jq.bZ KX G Jq.Q5 (by k_is) (by k_is) (by k_is) (by k_is)
  have dW := Jq.bZ KX G Jq.HN (by k_is) (by k_is) (by k_is) (by k_is)
  have cz := Jq.bZ KX G Jq.zA (by k_is) (by k_is) (by k_is) (by k_is)
  have cR := Jq.bZ KX G Jq.DW (by k_is) (by k_is) (by k_is) (by k_is)
  have jR := Jq.bZ KX G Jq.J7 (by k_is) (by k_is) (by k_is) (by k_is)
  have jK := Jq.bZ KX G Jq.Ms (by k_is) (by k_is) (by k_is) (by k_is)
  have jO := Jq.bZ KX G Jq.Jd (by k_is) (by k_is) (by k_is) (by k_is)
  have mL := Jq.bZ KX G Jq.Mz (by k_is) (by k_is) (by k_is) (by k_is)
  have d9 := Jq.bZ KX G Jq.Cu (by k_is) (by k_is) (by k_is) (by k_is)
  have dG := Jq.bZ KX G Jq.Bp (by k_is) (by k_is) (by k_is) (by k_is)
  have jN := Jq.bZ KX G Jq.Ma (by k_is) (by k_is) (by k_is) (by k_is)
  have qM := Jq.bZ KX G Jq.Uu (by k_is) (by k_is) (by k_is) (by k_is)
  have eU := Jq.bZ KX G Jq.zu (by k_is) (by k_is) (by k_is) (by k_is)
  have lA := Jq.bZ KX G Jq.O_ (by k_is) (by k_is) (by k_is) (by k_is)
  obtain ⟨dY, q_d_chosen_job⟩ := Jq.acf (n := 342) KX G Jq.LQ (by k_is) (by k_is) (by k_is) (by k_is) rfl
  have o_ := Jq.bZ KX G Jq.O2 (by k_is) (by k_is) (by k_is) (by k_is)
  have dZ := Jq.bZ KX G Jq.CZ (by k_is) (by k_is) (by k_is) (by k_is)
  have du := Jq.bZ KX G Jq.yV (by k_is) (by k_is) (by k_is) (by k_is)
  have cX := Jq.bZ KX G Jq.yt (by k_is) (by k_is) (by k_is) (by k_is)
  have cV := Jq.bZ KX G Jq.xQ (by k_is) (by k_is) (by k_is) (by k_is)
  have Bh := Jq.bZ KX G Jq.aa4 (by k_is) (by k_is) (by k_is) (by k_is)
  have Be := Jq.bZ KX G Jq.aae (by k_is) (by k_is) (by k_is) (by k_is)
  have jM := Jq.bZ KX G Jq.MK (by k_is) (by k_is) (by k_is) (by k_is)
  have fZ := Jq.bZ KX G Jq.FT (by k_is) (by k_is) (by k_is) (by k_is)
  have Az := Jq.bZ KX G Jq.Z0 (by k_is) (by k_is) (by k_is) (by k_is)
  have uv := Jq.bZ KX G Jq.Vq (by k_is) (by k_is) (by k_is) (by k_is)
  have GC := Jq.bZ KX G Jq.abQ (by k_is) (by k_is) (by k_is) (by k_is)
  have G6 := Jq.bZ KX G Jq.abt (by k_is) (by k_is) (by k_is) (by k_is)
  have xJ := Jq.bZ KX G Jq.X4 (by k_is) (by k_is) (by k_is) (by k_is)
  have ur := Jq.bZ KX G Jq.Uy (by k_is) (by k_is) (by k_is) (by k_is)
  have bO := Jq.bZ KX G Jq.vB (by k_is) (by k_is) (by k_is) (by k_is)
  have Ao := Jq.bZ KX G Jq.Y9 (by k_is) (by k_is) (by k_is) (by k_is)
  have fB := Jq.bZ KX G Jq.Bw (by k_is) (by k_is) (by k_is) (by k_is)
  have uD := Jq.bZ KX G Jq.Uo (by k_is) (by k_is) (by k_is) (by k_is)
  have eQ := Jq.bZ KX G Jq.z_ (by k_is) (by k_is) (by k_is) (by k_is)
  have wW := Jq.bZ KX G Jq.YF (by k_is) (by k_is) (by k_is) (by k_is)
  have oX := Jq.bZ KX G Jq.Sw (by k_is) (by k_is) (by k_is) (by k_is)
  have FZ := Jq.bZ KX G Jq.abS (by k_is) (by k_is) (by k_is) (by k_is)
  have Am := Jq.bZ KX G Jq.ZG (by k_is) (by k_is) (by k_is) (by k_is)
  have wU := Jq.bZ KX G Jq.Xm (by k_is) (by k_is) (by k_is) (by k_is)
  have w6 := Jq.bZ KX G Jq.X7 (by k_is) (by k_is) (by k_is) (by k_is)
  have xF := Jq.bZ KX G Jq.XJ (by k_is) (by k_is) (by k_is) (by k_is)
  have Fv := Jq.bZ KX G Jq.abi (by k_is) (by k_is) (by k_is) (by k_is)
  have gO := Jq.bZ KX G Jq.HH (by k_is) (by k_is) (by k_is) (by k_is)
  have jx := Jq.bZ KX G Jq.MP (by k_is) (by k_is) (by k_is) (by k_is)
  obtain ⟨fJ, q_d_tell_order⟩ := Jq.acf (n := 551) KX G Jq.M3 (by k_is) (by k_is) (by k_is) (by k_is) rfl
  have fQ := Jq.bZ KX G Jq.Df (by k_is) (by k_is) (by k_is) (by k_is)
  have jP := Jq.bZ KX G Jq.Kd (by k_is) (by k_is) (by k_is) (by k_is)
  have mQ := Jq.bZ KX G Jq.Mj (by k_is) (by k_is) (by k_is) (by k_is)
  have pA := Jq.bZ KX G Jq.Qe (by k_is) (by k_is) (by k_is) (by k_is)
  have lZ := Jq.bZ KX G Jq.Mw (by k_is) (by k_is) (by k_is) (by k_is)
  have jh := Jq.bZ KX G Jq.Ih (by k_is) (by k_is) (by k_is) (by k_is)
  have jT := Jq.bZ KX G Jq.Kh (by k_is) (by k_is) (by k_is) (by k_is)
  have gD := Jq.bZ KX G Jq.Fe (by k_is) (by k_is) (by k_is) (by k_is)
  have mJ := Jq.bZ KX G Jq.Lw (by k_is) (by k_is) (by k_is) (by k_is)
  have gC := Jq.bZ KX G Jq.Et (by k_is) (by k_is) (by k_is) (by k_is)
  have eO := Jq.bZ KX G Jq.zy (by k_is) (by k_is) (by k_is) (by k_is)
  have dg := Jq.bZ KX G Jq.xf (by k_is) (by k_is) (by k_is) (by k_is)
  have fO := Jq.bZ KX G Jq.CV (by k_is) (by k_is) (by k_is) (by k_is)
  have jU := Jq.bZ KX G Jq.Ky (by k_is) (by k_is) (by k_is) (by k_is)
  have l_ := Jq.bZ KX G Jq.MJ (by k_is) (by k_is) (by k_is) (by k_is)
  have mG := Jq.bZ KX G Jq.Ue (by k_is) (by k_is) (by k_is) (by k_is)
  have lC := Jq.Tf (C := 162) KX Jq.SM (by k_is) (by k_is) (by k_is) (by k_is) (by k_is)
  have dH := Jq.Tf (C := 218) KX Jq.DQ (by k_is) (by k_is) (by k_is) (by k_is) (by k_is)
  have iy := Jq.Tf (C := 246) KX Jq.Mf (by k_is) (by k_is) (by k_is) (by k_is) (by k_is)
  have iK := Jq.Tf (C := 246) KX Jq.J2 (by k_is) (by k_is) (by k_is) (by k_is) (by k_is)
  have gw := Jq.Tf (C := 675) KX Jq.Lh (by k_is) (by k_is) (by k_is) (by k_is) (by k_is)
  have fC := Jq.Tf (C := 675) KX Jq.Bq (by k_is) (by k_is) (by k_is) (by k_is) (by k_is)
  have cG := Jq.Tf (C := 675) KX Jq.yO (by k_is) (by k_is) (by k_is) (by k_is) (by k_is)
  have fP := Jq.Tf (C := 675) KX Jq.CQ (by k_is) (by k_is) (by k_is) (by k_is) (by k_is)
  have bQ := Jq.P_ (C := 162) KX (by k_is) (by k_is) (by k_is) (by k_is)
  have aaR := Jq.abY (C := 162) (x := "Job") KX G lC.m (by k_is) (by k_is) (by k_is)
  have ud := Jq.iU (C := 162) (x := "number") KX (by k_is)
  have uI := Jq.iU (C := 162) (x := "name") KX (by k_is)
  have lH := Jq.iU (C := 162) (x := "class_of") KX (by k_is)
  have lB := Jq.iU (C := 162) (x := "priority") KX (by k_is)
  have oZ := Jq.iU (C := 162) (x := "held") KX (by k_is)
  have ir := Jq.iU (C := 162) (x := "tests") KX (by k_is)
  have lU := Jq.iU (C := 162) (x := "state") KX (by k_is)
  have uR := Jq.iU (C := 162) (x := "code") KX (by k_is)
  have qg := Jq.iU (C := 162) (x := "waited") KX (by k_is)
  have eG := Jq.iU (C := 162) (x := "passed_over") KX (by k_is)
  have gP := Jq.iU (C := 162) (x := "due_turn") KX (by k_is)
  have bB := Jq.P_ (C := 218) KX (by k_is) (by k_is) (by k_is) (by k_is)
  have yR := Jq.abY (C := 218) (x := "Initiator") KX G dH.m (by k_is) (by k_is) (by k_is)
  have jg := Jq.iU (C := 218) (x := "on") KX (by k_is)
  have dq := Jq.iU (C := 218) (x := "classes") KX (by k_is)
  have cF := Jq.iU (C := 218) (x := "draining") KX (by k_is)
  have fj := Jq.iU (C := 218) (x := "runs") KX (by k_is)
  have bN := Jq.P_ (C := 246) KX (by k_is) (by k_is) (by k_is) (by k_is)
  have QG := Jq.abY (C := 246) (x := "Board") KX G iy.m (by k_is) (by k_is) (by k_is)
  have vD := Jq.iU (C := 246) (x := "cap") KX (by k_is)
  have Bo := Jq.iU (C := 246) (x := "k") KX (by k_is)
  have uw := Jq.iU (C := 246) (x := "a") KX (by k_is)
  have pZ := Jq.iU (C := 246) (x := "time") KX (by k_is)
  have um := Jq.iU (C := 246) (x := "jobs") KX (by k_is)
  have gm := Jq.iU (C := 246) (x := "last_number") KX (by k_is)
  have fc := Jq.iU (C := 246) (x := "last_due_turn") KX (by k_is)
  have lJ := Jq.iU (C := 246) (x := "limits") KX (by k_is)
  have kJ := Jq.iU (C := 246) (x := "closed") KX (by k_is)
  have gM := Jq.iU (C := 246) (x := "initiators") KX (by k_is)
  have dz := Jq.P_ (C := 675) KX (by k_is) (by k_is) (by k_is) (by k_is)
  have Jb := Jq.abY (C := 675) (x := "Reader") KX G gw.m (by k_is) (by k_is) (by k_is)
  have jc := Jq.iU (C := 675) (x := "calls") KX (by k_is)
  have dX := Jq.iU (C := 675) (x := "place") KX (by k_is)
  have xU := Jq.bD (x := "LAST_JOB") (n := (999999)) KX G (by k_is)
  have ue := Jq.bD (x := "LAST_CLASS") (n := (36)) KX G (by k_is)
  have lX := Jq.bD (x := "LAST_INITIATOR") (n := (16)) KX G (by k_is)
  have yx := Jq.bD (x := "MOST_TESTS") (n := (8)) KX G (by k_is)
  have jt := Jq.bD (x := "MOST_CLASSES_IN_LIST") (n := (8)) KX G (by k_is)
  have vf := Jq.bD (x := "LONGEST_NAME") (n := (8)) KX G (by k_is)
  have mK := Jq.bD (x := "WAITING") (n := (0)) KX G (by k_is)
  have nQ := Jq.bD (x := "RUNNING_job") (n := (1)) KX G (by k_is)
  have h_ := Jq.bD (x := "ENDED_WITH_CODE") (n := (2)) KX G (by k_is)
  have jj := Jq.bD (x := "ENDED_BY_ABEND") (n := (3)) KX G (by k_is)
  have Gd := Jq.bD (x := "FLUSHED") (n := (4)) KX G (by k_is)
  have Aa := Jq.bD (x := "CANCELLED") (n := (5)) KX G (by k_is)
  have sY := Jq.bD (x := "AFTER_ANY_END") (n := (0)) KX G (by k_is)
  have lO := Jq.bD (x := "AFTER_CODE_AT_MOST") (n := (1)) KX G (by k_is)
  have gn := Jq.bD (x := "AFTER_CODE_ABOVE_OR_ABEND") (n := (2)) KX G (by k_is)
  have vR := Jq.bD (x := "AFTER_ABEND") (n := (3)) KX G (by k_is)
  have tU := Jq.bD (x := "GREATEST_RANK") (n := (15)) KX G (by k_is)
  have aW := Jq.bD (x := "NOT_REFUSED") (n := (0)) KX G (by k_is)
  have bH := Jq.bD (x := "OUT_OF_RANGE") (n := (-1)) KX G (by k_is)
  have yg := Jq.bD (x := "BAD_FORM") (n := (-2)) KX G (by k_is)
  have lq := Jq.bD (x := "NO_INITIATOR") (n := (-3)) KX G (by k_is)
  have DY := Jq.bD (x := "NO_JOB") (n := (-4)) KX G (by k_is)
  have jG := Jq.bD (x := "SO_ALREADY") (n := (-5)) KX G (by k_is)
  have rM := Jq.bD (x := "WRONG_STATE") (n := (-6)) KX G (by k_is)
  have v8 := Jq.bD (x := "TEST_FAILED") (n := (-7)) KX G (by k_is)
  have Bk := Jq.bD (x := "NO_ROOM") (n := (-8)) KX G (by k_is)
  have zJ := Jq.bD (x := "LAST_TIME") (n := (100000000)) KX G (by k_is)
  have zQ := Jq.bD (x := "FIRST_CAP") (n := (500)) KX G (by k_is)
  have F_ := Jq.bD (x := "FIRST_K") (n := (10)) KX G (by k_is)
  have GX := Jq.bD (x := "FIRST_A") (n := (60)) KX G (by k_is)
  have QM := Jq.bD (x := "BEGIN") (n := (0)) KX G (by k_is)
  have Kr := Jq.bD (x := "SUBMIT") (n := (1)) KX G (by k_is)
  have T4 := Jq.bD (x := "HOLD") (n := (2)) KX G (by k_is)
  have Py := Jq.bD (x := "LETGO") (n := (3)) KX G (by k_is)
  have Jk := Jq.bD (x := "CHANGE") (n := (4)) KX G (by k_is)
  have K6 := Jq.bD (x := "CANCEL") (n := (5)) KX G (by k_is)
  have J_ := Jq.bD (x := "FORGET") (n := (6)) KX G (by k_is)
  have Vo := Jq.bD (x := "TICK") (n := (7)) KX G (by k_is)
  have QJ := Jq.bD (x := "LIMIT") (n := (8)) KX G (by k_is)
  have Qh := Jq.bD (x := "CLOSE") (n := (9)) KX G (by k_is)
  have Vy := Jq.bD (x := "OPEN") (n := (10)) KX G (by k_is)
  have Qm := Jq.bD (x := "START") (n := (11)) KX G (by k_is)
  have Qg := Jq.bD (x := "SERVE") (n := (12)) KX G (by k_is)
  have Qo := Jq.bD (x := "DRAIN") (n := (13)) KX G (by k_is)
  have T5 := Jq.bD (x := "PICK") (n := (14)) KX G (by k_is)
  have Vm := Jq.bD (x := "PEEK") (n := (15)) KX G (by k_is)
  have Lj := Jq.bD (x := "FINISH") (n := (16)) KX G (by k_is)
  have G9 := Jq.bD (x := "REQUEUE") (n := (17)) KX G (by k_is)
  have Qy := Jq.bD (x := "ORDER") (n := (18)) KX G (by k_is)
  have J5 := Jq.bD (x := "STATUS") (n := (19)) KX G (by k_is)
  have Qn := Jq.bD (x := "TESTS") (n := (20)) KX G (by k_is)
  have PX := Jq.bD (x := "AFTER") (n := (21)) KX G (by k_is)
  have uP := Jq.bD (x := "RUNNING_desk") (n := (22)) KX G (by k_is)
  have Jv := Jq.bD (x := "COUNTS") (n := (23)) KX G (by k_is)
  have zp := Jq.bD (x := "INITIATOR") (n := (24)) KX G (by k_is)
  have iT := PySem.W.mg_none_of (n := "len") KX G (by k_is)
  have Gy := PySem.W.mg_none_of (n := "list") KX G (by k_is)
  have uX := PySem.W.mg_none_of (n := "sorted") KX G (by k_is)
  have xT := PySem.W.mg_none_of (n := "range") KX G (by k_is)
  have SQ := PySem.W.mg_none_of (n := "min") KX G (by k_is)
  have aaq := PySem.W.mg_none_of (n := "set") KX G (by k_is)
  have ZF := PySem.W.mg_none_of (n := "any") KX G (by k_is)
  have Ou := PySem.W.mg_none_of (n := "int") KX G (by k_is)
  have shp := Jq.Ym (a := 610) KX G (by k_is) (by kernel_rfl)
  exact ⟨⟨⟨162, 218, 246, 675, xM, FJ, Gn, gf, fW, iD, gH, qY, rH, rD, eE, kO, rK, uC, gZ, fU, iI, uA, dJ, jo, lD, lN, ph, wY, gG, dW, cz, cR, jR, jK, jO, mL, d9, dG, jN, qM, eU, lA, dY, o_, dZ, du, cX, cV, Bh, Be, jM, fZ, Az, uv, GC, G6, xJ, ur, bO, Ao, fB, uD, eQ, wW, oX, FZ, Am, wU, w6, xF, Fv, gO, jx, fJ, fQ, jP, mQ, pA, lZ, jh, jT, gD, mJ, gC, eO, dg, fO, jU, l_, mG, lC, dH, iy, iK, gw, fC, cG, fP, bQ, aaR, ud, uI, lH, lB, oZ, ir, lU, uR, qg, eG, gP, bB, yR, jg, dq, cF, fj, bN, QG, vD, Bo, uw, pZ, um, gm, fc, lJ, kJ, gM, dz, Jb, jc, dX, xU, ue, lX, yx, jt, vf, mK, nQ, h_, jj, Gd, Aa, sY, lO, gn, vR, tU, aW, bH, yg, lq, DY, jG, rM, v8, Bk, zJ, zQ, F_, GX, QM, Kr, T4, Py, Jk, K6, J_, Vo, QJ, Qh, Vy, Qm, Qg, Qo, T5, Vm, Lj, G9, Qy, J5, Qn, PX, uP, Jv, zp, iT, Gy, uX, xT, SQ, aaq, ZF, Ou, 340, 549, ⟨trivial⟩⟩, rfl, rfl, Jq.abV mG.g hmg, q_d_chosen_job, q_d_tell_order⟩, shp, by decide, by kernel_rfl, by kernel_rfl, by kernel_rfl, by kernel_rfl, by kernel_rfl⟩
