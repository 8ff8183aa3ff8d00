/- Parts of the proof, written short; the last text says what is proved. -/
import Derived.Test.YtldeiiffabfmeaaGreatDoorProg
import Derived.WalkKit
import Derived.WalkSpells
import Derived.WalkLawsBesides
import Derived.Deep.QuietTactic
import Derived.BigQuiet
import Derived.Deep.RegionWith
import Derived.WalkSmall
import Derived.Maps.OwnOps
import Derived.Maps.OwnSet
import Derived.Orders
import Derived.Laws.CopyRow
import Derived.Laws.CopyOwn
import Derived.Laws.AppendOwnNone
set_option linter.all false
set_option maxRecDepth 100000
set_option maxHeartbeats 4000000
open Option renaming some->E,none->G,map_some->bR,getD_some->bT
open Go.IntKind renaming i64->H
open Go.Value renaming int->I,slice->Z,pointer->Y,bool->ai,agg->aq,func->aV
open Go renaming World->J,Value->O,Calls->N,Oper->an,undef->ao,TypeId->aE,Program->aF
open Bool renaming true->U,false->V,and_eq_true->aQ,not_eq_true'->aX,or_eq_true->bm,true_and->bM
open Go.RowKit renaming Below->L
open Go.Proofs.Tryz renaming prog->X,func101->ax,ntmps101->ay,func34->aH,ntmps34->aI,func61->aN,ntmps61->aP,underlying26->aU,underlying3->aW,func43->bd,ntmps43->bg,func40->bu,ntmps40->bw,func78->bB,ntmps78->bC,func117->bD,ntmps117->bE,func48->bF,ntmps48->bG,func60->bH,ntmps60->bI,func38->bJ,ntmps38->bK,func72->bN,ntmps72->bO,func42->cx,ntmps42->cz,func164->cJ,ntmps164->cN
open Go.Ending renaming returned->W
open Go.Obj renaming cells->ae
open Go.RowKit.Below renaming refl->ah,heap_setCell->cj,heap_alloc->ck
open Nat renaming le_refl->aj,zero_le->ak,add_assoc->ar,mul_comm->au,lt_of_lt_of_le->aD,mul_one->aG
open Go.World renaming block_lt_of_cell?->az,cell?->cg,ownsRow_nil->cE
open Go.Region renaming ready->aA,binds->aK,Mode->bP
open Go.Act renaming put->aJ
open Go.Builtin renaming append_->aM,zeroCells->aY,nextslicecap->cH
open Go.Calls renaming quiet_of_same->aZ
open Array renaming getD_eq_getD_getElem?->bh,all_eq_true_iff_forall_mem->bl,getElem?_setIfInBounds->bn,getElem?_eq_some_iff->bz,getElem?_eq_getElem->bX,getElem?_replicate->bY,toList_append->cO
open List renaming mem_range->bj,getD->bq,length_append->bA,mem_filter->bQ,all_eq_true->bU,mem_of_getElem?->bV,take_add_one->cA,filter_append->cD,eq_nil_of_length_eq_zero->cF,append_nil->cG,mem_append->cQ
variable{v y b c d f:Nat}{g h i:J}{j k l m:O}{n p:Type}{q:Array Bool}{r:List O}{s t:Go.Act}{z A B:Int}{C:Array O}{F:an}
namespace Go.Proofs.YtldeiiffabfmeaaGreatDoor
section
open Go.RowKit
def jO(p:Nat->Bool):Nat->Bool|0=>U|k+1=>jO p k&&p k
def kq(p:Nat->Bool):Nat->Bool|0=>V|k+1=>kq p k||p k
def vM{p:Nat->Bool}{n k:Nat}(h:k<n)(a:p k=V):jO p n=V:=by induction n with|zero=>omega|succ n b=>by_cases e:k=n;(.subst e;simp[jO,a]);.simp[jO,b<|by omega]
def tN{p:Nat->Bool}{k:Nat}(h:jO p k=U)(a:p k=U):jO p (k+1)=U:=by simp[jO,h,a]
def nO{p:Nat->Bool}{n k:Nat}(h:jO p n=U)(hk:k<n):p k=U:=by cases a:p k with|true=>rfl|false=>rw[vM hk a]at h;cases h
def LN{p:Nat->Bool}{n:Nat}(h:∀k,k<n->p k=U):jO p n=U:=by induction n with|zero=>rfl|succ n a=>simp[jO,a λk hk=>h k<|by omega,h n<|by omega]
def nW{p:Nat->Bool}{n k:Nat}(h:k<n)(a:p k=U):kq p n=U:=by induction n with|zero=>omega|succ n b=>by_cases e:k=n;(.subst e;simp[kq,a]);.simp[kq,b<|by omega]
def xi{p:Nat->Bool}{k:Nat}(h:kq p k=V)(a:p k=V):kq p (k+1)=V:=by simp[kq,h,a]
def tv{p:Nat->Bool}{n:Nat}(h:kq p n=U):∃k,k<n/\p k=U:=by induction n with|zero=>simp[kq]at h|succ n b=>cases a:p n with|true=>grind|false=>simp[kq,a]at h;grind
def Np{p:Nat->Bool}{n:Nat}(h:kq p n=V)(k:Nat)(hk:k<n):p k=V:=by cases a:p k with|false=>rfl|true=>rw[nW hk a]at h;cases h
def iX(n lo hi:Int):Bool:=decide (lo<=n)&&decide (n<=hi)
def hasB(n:Nat)(f:Nat->Int)(x:Int):Bool:=kq (λi=>f i==x) n
def nC(n:Nat)(f:Nat->Int):Bool:=decide (n<=6)&&jO (λi=>iX (f i) 0 99) n
def oS(lo hi:Int):Bool:=iX lo 0 99&&iX hi 0 99&&decide (lo<=hi)
def rm(n:Nat)(f:Nat->Int):Bool:=decide (n<=3)&&jO (λi=>oS (f<|2*i)<|f<|2*i+1) n
structure iP where
 nr:Nat
 r:Nat->Int
 nw:Nat
 wr:Nat->Int
 ng:Nat
 g:Nat->Int
 nc:Nat
 c:Nat->Int
def mS(K A B C:Int)(t:iP)(k:Nat):Bool:=if K=1 then iX A 0 3 else if K=2 then iX A 0 3&&(hasB t.nr t.r B||hasB t.nw t.wr B)else if K=3 then hasB t.nw t.wr A&&iX B 0 3 else if K=4 then hasB t.nw t.wr A else if K=5\/K=6 then iX A 0 3&&iX B 0 (t.ng-1)else if K=7\/K=8 then iX A 0 3&&iX B 0 3&&iX C 0 3 else if K=9 then iX A 0 3&&iX B 0 3&&iX C (k+1) t.nc else K==10
def qG(t:iP)(k:Nat):Bool:=mS (t.c<|4*k) (t.c<|4*k+1) (t.c<|4*k+2) (t.c<|4*k+3) t k
def wi(t:iP):Bool:=decide (t.nc<=16)&&jO (qG t) t.nc
def ld(t:iP):Bool:=nC t.nr t.r&&nC t.nw t.wr&&rm t.ng t.g&&wi t
def lZ(lo:Int)(f:Nat->Int)(i:Nat):Bool:=iX (f i) (match i with|0=>lo|j+1=>f j+1) 99
def vq(n:Nat)(f:Nat->Int):Bool:=decide (n<=3)&&jO (lZ 1 f) n
def lh(n:Nat)(f:Nat->Int)(a b c:Int):Bool:=vq n f&&iX a 1 8&&iX b 1 8&&iX c 1 4
def uw(p:Nat->Bool):Nat->Nat->Option Nat|0,_=>G|k+1,i=>if p i then uw p k (i+1)else E i
def KF{p:Nat->Bool}:∀(m i k:Nat),jO p i=U->i<=k->k<i+m->(∀j,j<k->p j=U)->p k=V->uw p m i=E k|0,i,k,_,b,f,_,_=>by omega|m+1,i,k,c,b,f,a,d=>by unfold uw;by_cases e:i=k;(.grind);.rw[if_pos<|a i<|by omega];exact KF m (i+1) k (tN c<|a i<|by omega) (by omega) (by omega) a d
def Kq{p:Nat->Bool}:∀(m i:Nat),(∀j,j<i+m->p j=U)->uw p m i=G|0,i,_=>rfl|m+1,i,h=>by unfold uw;rw[if_pos<|h i<|by omega];exact Kq m (i+1) λj a=>h j (by omega)
def EV{p:Nat->Bool}{n k:Nat}(hk:k<n)(h:jO p k=U)(a:p k=V):uw p n 0=E k:=KF n 0 k rfl (by omega) (by omega) (λ_ b=>nO h b) a
def Ee{p:Nat->Bool}{n:Nat}(h:jO p n=U):uw p n 0=G:=Kq n 0 λj a=>nO h<|by omega
def logAt(n:Nat)(ts:Nat->iP):Option Nat:=if 24<n then E 24 else uw (λi=>ld<|ts i) n 0
def nZ(n:Nat)(f:Nat->Int):Option Nat:=if 40<n then E 40 else uw (lZ 0 λi=>f<|2*i) n 0
def newAt(nb:Nat)(fb:Nat->Int)(a b c:Int)(nl:Nat)(ts:Nat->iP)(d:Nat)(fs:Nat->Int):Nat×Nat:=if lh nb fb a b c then match logAt nl ts with|E k=>(2,k)|G=>match nZ d fs with|E k=>(3,k)|G=>(0,0)else(1,0)
def iQ(w:J)(v:O)(k n:Nat)(f:Nat->Int):Prop:=∃a cap,v=Z a n cap/\n<=1048577/\(0<n->∃b off,a=E ⟨b,off,G⟩/\b<w.heap.size/\∀j,j<n*k->w.cell? ⟨b,off+j,G⟩=E (I H<|f j))
def iQ.below{w:J}{k n:Nat}{f:Nat->Int}(h:iQ w j k n f)(e:L w.heap.size w g):iQ g j k n f:=by obtain⟨a,cap,rfl,p,m⟩:=h;refine⟨a,cap,rfl,p,λl=>?_⟩;obtain⟨b,off,rfl,d,c⟩:=m l;exact⟨b,off,rfl,aD d e.size,λi o=>by rw[e.cell d];exact c i o⟩
def iQ.alloc{w:J}{k n:Nat}{f:Nat->Int}(h:iQ w j k n f)(o:Obj):iQ (w.alloc o) j k n f:=h.below<|(ah _ _).alloc (aj _) _
structure lE(w:J)(a b c d:O)(t:iP):Prop where
 r:iQ w a 1 t.nr t.r
 wr:iQ w b 1 t.nw t.wr
 g:iQ w c 2 t.ng t.g
 c:iQ w d 4 t.nc t.c
def lE.below{w:J}{a b c d:O}{t:iP}(h:lE w a b c d t)(e:L w.heap.size w g):lE g a b c d t:=⟨h.r.below e,h.wr.below e,h.g.below e,h.c.below e⟩
def lE.alloc{w:J}{a b c d:O}{t:iP}(h:lE w a b c d t)(o:Obj):lE (w.alloc o) a b c d t:=h.below<|(ah _ _).alloc (aj _) _
def lI(w:J)(v:O)(n:Nat)(ts:Nat->iP):Prop:=∃a cap,v=Z a n cap/\n<=1048577/\(0<n->∃b off,a=E ⟨b,off,G⟩/\b<w.heap.size/\∃c:Nat->O,(∀j,j<n*4->w.cell? ⟨b,off+j,G⟩=E (c j))/\∀i,i<n->lE w (c<|i*4) (c<|i*4+1) (c<|i*4+2) (c<|i*4+3) (ts i))
def lI.below{w:J}{n:Nat}{ts:Nat->iP}(h:lI w j n ts)(e:L w.heap.size w g):lI g j n ts:=by obtain⟨a,cap,rfl,q,o⟩:=h;refine⟨a,cap,rfl,q,λm=>?_⟩;obtain⟨b,off,rfl,d,l,c,k⟩:=o m;exact⟨b,off,rfl,aD d e.size,l,λf p=>by rw[e.cell d];exact c f p,λi hi=>(k i hi).below e⟩
def Eh{W w1:J}(a:L W.heap.size W w1):(∀b o,b<W.heap.size->w1.cell? ⟨b,o,G⟩=W.cell? ⟨b,o,G⟩)/\(∀b o,b<W.heap.size->w1.frozen? ⟨b,o,G⟩=W.frozen? ⟨b,o,G⟩):=⟨λb o h=>a.cell h,λb o h=>a.frozen h⟩
def jd{a b:Bool}(h:a=b):W (ai a)=W (ai b):=by rw[h]
def _root_.Go.Calls.to{P:aF}{f:FuncId}{w:J}{c:Ending}{R:Ending->J->Prop}(h:N P f C w λe d=>e=c/\d=g)(k:R c g):N P f C w R:=h.mono λ_ _⟨a,b⟩=>a▸b▸k
def sx(n lo hi:Int)(w:J):N X 78 #[I H n,I H lo,I H hi] w λe a=>e=W (ai<|iX n lo hi)/\a=w:=by
 by_cases h:lo<=n;.go_enter bB,bC;go_wp2;go_ret;simp[h,iX]
 . (have hd:decide (lo<=n)=V:=by simpa using h);go_enter bB,bC;go_wp2;go_ret;simp[hd,iX]
def zT(n:Int)(w:J):N X 143 #[I H n] w λe a=>e=W (ai<|iX n 0 99)/\a=w:=by go_enter Tryz.func143,Tryz.ntmps143;go_wp2_with(go_at_call 78;refine(sx _ _ _ _).to ?_);go_ret;exact⟨rfl,rfl⟩
def vJ(n:Int)(w:J):N X 172 #[I H n] w λe a=>e=W (ai<|iX n 0 3)/\a=w:=by go_enter Tryz.func172,Tryz.ntmps172;go_wp2_with(go_at_call 78;refine(sx _ _ _ _).to ?_);go_ret;exact⟨rfl,rfl⟩
def agU(v:O)(n:Nat)(f:Nat->Int)(x:Int)(w:J)(h:iQ w v 1 n f):N X 146 #[v,I H x] w λe l=>e=W (ai<|hasB n f x)/\l=w:=by
 obtain⟨a,cap,rfl,m,g⟩:=h;go_enter Tryz.func146,Tryz.ntmps146;go_wp2;go_loop[5](λi=>∃k:Nat,k<=n/\i=I H k/\hasB k f x=V)(λi=>n-(intOf i).toNat);case atStart=>exact⟨0,ak _,rfl,rfl⟩
 case round=>obtain⟨k,hk,rfl,j⟩:=hrel;by_cases d:k<n;(.obtain⟨b,off,rfl,o,c⟩:=g (by omega);simp only[aG]at c;clear g;go_wp2;(.go_ret;exact⟨jd (nW d ‹_›).symm,rfl⟩);.go_round;(case rel=>exact⟨k+1,by omega,by go_num,xi j ‹_›⟩);case measure=>simp[intOf];omega);.go_wp2;go_ret;(have:k=n:=by omega);subst this;exact⟨jd j.symm,rfl⟩
def UQ(h:(z==A)=U):(A==z)=U:=by rw[beq_iff_eq]at*;exact h.symm
def aci(h:(z==A)=V):(A==z)=V:=by rw[beq_eq_false_iff_ne]at*;exactλe=>h e.symm
def adq(v:O)(n:Nat)(f:Nat->Int)(x:Int)(w:J)(h:iQ w v 1 n f):N X 148 #[v,I H x] w λe l=>∃r:Int,e=W (I H r)/\decide (0<=r)=hasB n f x/\l=w:=by
 obtain⟨a,cap,rfl,m,g⟩:=h;go_enter Tryz.func148,Tryz.ntmps148;go_wp2;go_loop[8](λi=>∃k:Nat,k<=n/\i=I H k/\hasB k f x=V)(λi=>n-(intOf i).toNat);case atStart=>exact⟨0,ak _,rfl,rfl⟩
 case round=>obtain⟨k,hk,rfl,j⟩:=hrel;by_cases d:k<n;(.obtain⟨b,off,rfl,o,c⟩:=g (by omega);simp only[aG]at c;clear g;go_wp2;(.go_ret;refine⟨k,rfl,?_,rfl⟩;rw[show hasB n f x=U from nW d (UQ ‹(x==f k)=U›)];simp);.go_round;(case rel=>exact⟨k+1,by omega,by go_num,xi j<|aci ‹(x==f k)=V›⟩);case measure=>simp[intOf];omega);.go_wp2;go_ret;(have:k=n:=by omega);subst this;refine⟨-1,rfl,?_,rfl⟩;rw[j];rfl
def oG(v:O)(n:Nat)(f:Nat->Int)(x:Int)(w:J)(h:iQ w v 1 n f):N X 128 #[v,I H x] w λe a=>e=W (ai<|hasB n f x)/\a=w:=by go_enter Tryz.func128,Tryz.ntmps128;go_wp2_with(go_at_call 148;refine(adq _ n f _ _ h).mono ?_;rintro e a⟨r,rfl,b,rfl⟩;have c:Hid<|_=_:=b;clear b);go_ret;exact⟨jd c.out,rfl⟩
def zf(v:O)(n:Nat)(f:Nat->Int)(w:J)(h:iQ w v 1 n f):N X 117 #[v] w λe o=>e=W (ai<|nC n f)/\o=w:=by
 obtain⟨a,cap,rfl,q,j⟩:=h;by_cases l:n<=6;.go_enter bD,bE;go_wp2;go_loop[10](λi=>∃k:Nat,k<=n/\i=I H k/\jO (λi=>iX (f i) 0 99) k=U)(λi=>n-(intOf i).toNat);(case atStart=>exact⟨0,ak _,rfl,rfl⟩);case round=>obtain⟨k,hk,rfl,m⟩:=hrel;by_cases d:k<n;(.obtain⟨b,off,rfl,r,c⟩:=j (by omega);simp only[aG]at c;clear j;cases g:iX (f k) 0 99 with|false=>go_wp2_with(go_at_call 143;refine(zT _ _).to ?_);go_ret;exact⟨jd<|by simp[nC,vM (p:=λi=>iX (f i) 0 99) d g],rfl⟩|true=>go_wp2_with(go_at_call 143;refine(zT _ _).to ?_);go_round;(case rel=>exact⟨k+1,by omega,by go_num,tN m g⟩);case measure=>simp[intOf];omega);.go_wp2;go_ret;(have:k=n:=by omega);subst this;exact⟨jd<|by simp[nC,m,l],rfl⟩
 .go_enter bD,bE;go_wp2;go_ret;exact⟨jd<|by simp[nC,l],rfl⟩
def KG(v:O)(n:Nat)(f:Nat->Int)(w:J)(h:iQ w v 2 n f):N X 48 #[v] w λe C=>e=W (.tuple #[I H ((nZ n f).getD 0:Nat),ai (nZ n f).isNone])/\L w.heap.size w C:=by
 obtain⟨a,cap,rfl,K,y⟩:=h;by_cases D:n<=40;.go_enter bF,bG;go_wp2;go_loopw[4,12](λl i wr=>∃k:Nat,k<=n/\i=I H k/\jO (lZ 0 λi=>f<|2*i) k=U/\L w.heap.size w wr/\∃z:Int,l=I H z/\z=(match k with|0=>-1|j+1=>f (2*j))/\-1<=z/\z<=99)(λ_ i _=>n-(intOf i).toNat);(case atStart=>exact⟨0,ak _,rfl,rfl,ah _ _,-1,rfl,rfl,by omega,by omega⟩);case round=>obtain⟨k,hk,rfl,s,c,z,rfl,q,A,F⟩:=hrel;by_cases t:k<n;(.obtain⟨b,off,rfl,o,d⟩:=y (by omega);have B:b<wr.heap.size:=aD o c.size;(have c0:wr.cell? ⟨b,off+k*2,G⟩=E (I H<|f<|2*k):=by rw[c.cell (p:=⟨b,off+k*2,G⟩) o,d _<|by omega,au]);(have c1:wr.cell? ⟨b,off+k*2+1,G⟩=E (I H<|f<|2*k+1):=by rw[c.cell (p:=⟨b,off+k*2+1,G⟩) o,ar,d _<|by omega,au]);(have u:lZ 0 (λi=>f<|2*i) k=iX (f<|2*k) (z+1) 99:=by rw[q];cases k<;>simp[lZ]);clear q y d;have x:Hid<|_=_:=u;clear u;cases m:iX (f<|2*k) (z+1) 99 with|false=>(have g:Hid<|nZ n f=E k:=by unfold nZ;rw[if_neg<|by omega];exact EV t s<|x.out.trans m);go_wp2_with(go_at_call 78;refine(sx _ _ _ _).to ?_);go_ret2;refine⟨?_,c.alloc c.size _⟩;rw[g.out];rfl|true=>go_wp2_with(go_at_call 78;refine(sx _ _ _ _).to ?_);go_roundw;(case rel=>have r:=m;simp[iX]at m;exact⟨k+1,by omega,by go_num,tN s<|x.out.trans r,c.alloc c.size _,f<|2*k,rfl,rfl,by omega,by omega⟩);case measure=>simp[intOf];omega);. (have:k=n:=by omega);subst this;clear q;(have g:Hid<|nZ k f=G:=by unfold nZ;rw[if_neg<|by omega];exact Ee s);go_wp2;go_ret2;refine⟨?_,c⟩;rw[g.out];rfl
 . (have g:Hid<|nZ n f=E 40:=by unfold nZ;rw[if_pos<|by omega];rfl);go_enter bF,bG;go_wp2;go_ret2;refine⟨?_,ah _ _⟩;rw[g.out];rfl
def Xj{nb:Nat}{fb:Nat->Int}{a b c:Int}(h:lh nb fb a b c=V)(nl:Nat)(ts:Nat->iP)(d:Nat)(fs:Nat->Int):newAt nb fb a b c nl ts d fs=(1,0):=by unfold newAt;rw[if_neg<|by simp[h]]
def mi(n lo hi:Int)(w:J):N X 60 #[I H n,I H lo,I H hi] w λe a=>e=W (ai<|iX n lo hi)/\a=w:=by
 by_cases h:lo<=n;.go_enter bH,bI;go_wp2;go_ret;simp[h,iX]
 . (have hd:decide (lo<=n)=V:=by simpa using h);go_enter bH,bI;go_wp2;go_ret;simp[hd,iX]
def wF(v:O)(n:Nat)(f:Nat->Int)(w:J)(h:iQ w v 1 n f):N X 100 #[v] w λe o=>e=W (ai<|nC n f)/\o=w:=by
 obtain⟨a,cap,rfl,q,m⟩:=h;go_enter Tryz.func100,Tryz.ntmps100;go_wp2;go_loop[3](λi=>∃k:Nat,k<=n/\i=I H k/\jO (λi=>iX (f i) 0 99) k=U)(λi=>n-(intOf i).toNat);case atStart=>exact⟨0,ak _,rfl,rfl⟩
 case round=>obtain⟨k,hk,rfl,l⟩:=hrel;by_cases g:k<n;(.obtain⟨b,off,rfl,r,c⟩:=m (by omega);simp only[aG]at c;clear m;cases d:iX (f k) 0 99 with|false=>have j:Hid<|_=_:=d;go_wp2_with(go_at_call 60;refine(mi _ _ _ _).to ?_;rw[d]);go_ret;exact⟨jd<|by simp[nC,vM (p:=λi=>iX (f i) 0 99) g j.out],rfl⟩|true=>have j:Hid<|_=_:=d;go_wp2_with(go_at_call 60;refine(mi _ _ _ _).to ?_;rw[d]);go_round;(case rel=>exact⟨k+1,by omega,by go_num,tN l j.out⟩);case measure=>simp[intOf];omega);.go_wp2;go_ret;(have:k=n:=by omega);subst this;refine⟨jd ?_,rfl⟩;simp[nC,l];omega
def pP(v u:O)(n m:Nat)(f g:Nat->Int)(x:Int)(w:J)(h:iQ w v 1 n f)(z:iQ w u 1 m g):N X 126 #[v,u,I H x] w λe A=>e=W (ai<|hasB n f x||hasB m g x)/\A=w:=by
 obtain⟨a,cap,rfl,F,q⟩:=h;obtain⟨C,s,rfl,K,d⟩:=z;go_enter Tryz.func126,Tryz.ntmps126;go_wp2;go_loop[7](λi=>∃k:Nat,k<=n/\i=I H k/\hasB k f x=V)(λi=>n-(intOf i).toNat);case atStart=>exact⟨0,ak _,rfl,rfl⟩
 case round=>obtain⟨k,hk,rfl,l⟩:=hrel;by_cases p:k<n;(.obtain⟨b,off,rfl,y,c⟩:=q (by omega);simp only[aG]at c;clear q d;go_wp2;(.go_ret;exact⟨jd<|by rw[show hasB n f x=U from nW p ‹_›];rfl,rfl⟩);.go_round;(case rel=>exact⟨k+1,by omega,by go_num,xi l ‹_›⟩);case measure=>simp[intOf];omega);. (have o:k=n:=by omega);(have t:hasB n f x=V:=by rw[<-o];exact l);have B:Hid<|_=_:=t;clear q t o l;go_wp2;go_loop[8](λi=>∃k:Nat,k<=m/\i=I H k/\hasB k g x=V)(λi=>m-(intOf i).toNat);(case atStart=>exact⟨0,ak _,rfl,rfl⟩);case round=>obtain⟨j,D,rfl,l⟩:=hrel;by_cases r:j<m;(.obtain⟨b,off,rfl,y,c⟩:=d (by omega);simp only[aG]at c;clear d;go_wp2;(.go_ret;exact⟨jd<|by rw[show hasB m g x=U from nW r ‹_›,Bool.or_true],rfl⟩);.go_round;(case rel=>exact⟨j+1,by omega,by go_num,xi l ‹_›⟩);case measure=>simp[intOf];omega);.go_wp2;go_ret;(have:j=m:=by omega);subst this;exact⟨jd<|by rw[B.out,l];rfl,rfl⟩
def Kg(m vb y z:O)(t:iP)(k:Nat)(hk:k<t.nc)(w:J)(h:lE w m vb y z t):N X 101 #[aq #[m,vb,y,z],I H k] w λe D=>e=W (ai<|qG t k)/\L w.heap.size w D:=by
 obtain⟨F,T,u,q⟩:=h;obtain⟨ac,o,rfl,S,q⟩:=q;obtain⟨b,off,rfl,hb,f⟩:=q (by omega);obtain⟨ag,n,rfl,R,u⟩:=u;have c0:w.cell? ⟨b,off+k*4,G⟩=E (I H<|t.c<|4*k):=by rw[f _<|by omega,au]
 have c1:w.cell? ⟨b,off+k*4+1,G⟩=E (I H<|t.c<|4*k+1):=by rw[ar,f _<|by omega,au]
 have c2:w.cell? ⟨b,off+k*4+2,G⟩=E (I H<|t.c<|4*k+2):=by rw[ar,f _<|by omega,au]
 have c3:w.cell? ⟨b,off+k*4+3,G⟩=E (I H<|t.c<|4*k+3):=by rw[ar,f _<|by omega,au]
 clear f q u;unfold qG;generalize t.c (4*k)=K at*;generalize t.c (4*k+1)=A at*;generalize t.c (4*k+2)=B at*;generalize t.c (4*k+3)=C at*;have i:=(F.alloc<|ae #[m,vb,Z ag t.ng n,Z (E ⟨b,off,G⟩) t.nc o] 91).alloc<|ae #[I H K,I H A,I H B,I H C] 161;have a:=(T.alloc<|ae #[m,vb,Z ag t.ng n,Z (E ⟨b,off,G⟩) t.nc o] 91).alloc<|ae #[I H K,I H A,I H B,I H C] 161;have g:∀v o2,L w.heap.size w<|(w.alloc v).alloc o2:=λv o2=>((ah _ _).alloc (aj _) _).alloc (by simp) _;have d:iQ ((w.alloc<|ae #[m,vb,Z ag t.ng n,Z (E ⟨b,off,G⟩) t.nc o] 91).alloc<|ae #[I H K,I H A,I H B,I H C] 161) (Z G 0 0) 1 0 t.wr:=⟨_,_,rfl,by omega,λh=>by omega⟩;have j:∀x,hasB 0 t.wr x=V:=λ_=>rfl;by_cases k1:K=1;.subst k1;cases l:iX A 0 3;all_goals go_enter ax,ay;go_wp2_with(first|(go_at_call 60;refine(mi _ _ _ _).to ?_)|(go_at_call_of 126(m);refine(pP _ _ t.nr t.nw t.r t.wr _ _ i a).to ?_)|(go_at_call_of 126(vb);refine(pP _ _ t.nw 0 t.wr t.wr _ _ a d).to ?_));go_ret;exact⟨jd<|by simp[mS,j,l],g _ _⟩
 by_cases k2:K=2;.subst k2;cases l:iX A 0 3;all_goals go_enter ax,ay;go_wp2_with(first|(go_at_call 60;refine(mi _ _ _ _).to ?_)|(go_at_call_of 126(m);refine(pP _ _ t.nr t.nw t.r t.wr _ _ i a).to ?_)|(go_at_call_of 126(vb);refine(pP _ _ t.nw 0 t.wr t.wr _ _ a d).to ?_));go_ret;exact⟨jd<|by simp[mS,j,l],g _ _⟩
 by_cases k3:K=3;.subst k3;cases l:iX B 0 3;all_goals go_enter ax,ay;go_wp2_with(first|(go_at_call 60;refine(mi _ _ _ _).to ?_)|(go_at_call_of 126(m);refine(pP _ _ t.nr t.nw t.r t.wr _ _ i a).to ?_)|(go_at_call_of 126(vb);refine(pP _ _ t.nw 0 t.wr t.wr _ _ a d).to ?_));go_ret;exact⟨jd<|by simp[mS,j,l],g _ _⟩
 by_cases k4:K=4;.subst k4;all_goals go_enter ax,ay;go_wp2_with(first|(go_at_call 60;refine(mi _ _ _ _).to ?_)|(go_at_call_of 126(m);refine(pP _ _ t.nr t.nw t.r t.wr _ _ i a).to ?_)|(go_at_call_of 126(vb);refine(pP _ _ t.nw 0 t.wr t.wr _ _ a d).to ?_));go_ret;exact⟨jd<|by simp[mS,j],g _ _⟩
 by_cases k5:K=5;.subst k5;cases l:iX A 0 3;all_goals go_enter ax,ay;go_wp2_with(first|(go_at_call 60;refine(mi _ _ _ _).to ?_)|(go_at_call_of 126(m);refine(pP _ _ t.nr t.nw t.r t.wr _ _ i a).to ?_)|(go_at_call_of 126(vb);refine(pP _ _ t.nw 0 t.wr t.wr _ _ a d).to ?_));go_ret;exact⟨jd<|by simp[mS,j,l],g _ _⟩
 by_cases k6:K=6;.subst k6;cases l:iX A 0 3;all_goals go_enter ax,ay;go_wp2_with(first|(go_at_call 60;refine(mi _ _ _ _).to ?_)|(go_at_call_of 126(m);refine(pP _ _ t.nr t.nw t.r t.wr _ _ i a).to ?_)|(go_at_call_of 126(vb);refine(pP _ _ t.nw 0 t.wr t.wr _ _ a d).to ?_));go_ret;exact⟨jd<|by simp[mS,j,l],g _ _⟩
 by_cases Q:K=7;.subst Q;cases l:iX A 0 3<;>cases p:iX B 0 3<;>cases s:iX C 0 3;all_goals go_enter ax,ay;go_wp2_with(first|(go_at_call 60;refine(mi _ _ _ _).to ?_)|(go_at_call_of 126(m);refine(pP _ _ t.nr t.nw t.r t.wr _ _ i a).to ?_)|(go_at_call_of 126(vb);refine(pP _ _ t.nw 0 t.wr t.wr _ _ a d).to ?_));go_ret;exact⟨jd<|by simp[mS,j,l,p,s],g _ _⟩
 by_cases M:K=8;.subst M;cases l:iX A 0 3<;>cases p:iX B 0 3<;>cases s:iX C 0 3;all_goals go_enter ax,ay;go_wp2_with(first|(go_at_call 60;refine(mi _ _ _ _).to ?_)|(go_at_call_of 126(m);refine(pP _ _ t.nr t.nw t.r t.wr _ _ i a).to ?_)|(go_at_call_of 126(vb);refine(pP _ _ t.nw 0 t.wr t.wr _ _ a d).to ?_));go_ret;exact⟨jd<|by simp[mS,j,l,p,s],g _ _⟩
 by_cases P:K=9;.subst P;cases l:iX A 0 3<;>cases p:iX B 0 3;all_goals go_enter ax,ay;go_wp2_with(first|(go_at_call 60;refine(mi _ _ _ _).to ?_)|(go_at_call_of 126(m);refine(pP _ _ t.nr t.nw t.r t.wr _ _ i a).to ?_)|(go_at_call_of 126(vb);refine(pP _ _ t.nw 0 t.wr t.wr _ _ a d).to ?_));go_ret;exact⟨jd<|by simp[mS,j,l,p],g _ _⟩
 have hd:mS K A B C t k=(K==10):=by simp[mS, *]
 go_enter ax,ay;go_wp2_with(first|(go_at_call 60;refine(mi _ _ _ _).to ?_)|(go_at_call_of 126(m);refine(pP _ _ t.nr t.nw t.r t.wr _ _ i a).to ?_)|(go_at_call_of 126(vb);refine(pP _ _ t.nw 0 t.wr t.wr _ _ a d).to ?_));all_goals go_ret
 all_goals exact⟨jd hd.symm,g _ _⟩
def Lb(F vb vc vd:O)(t:iP)(w:J)(h:lE w F vb vc vd t):N X 61 #[aq #[F,vb,vc,vd]] w λe R=>e=W (ai<|ld t)/\L w.heap.size w R:=by
 obtain⟨M,f,rfl,al,-⟩:=id h.c;obtain⟨ag,l,rfl,an,A⟩:=id h.g;have z:=h.alloc<|ae #[F,vb,Z ag t.ng l,Z M t.nc f] 91;have o:L w.heap.size w<|w.alloc<|ae #[F,vb,Z ag t.ng l,Z M t.nc f] 91:=(ah _ _).alloc (aj _) _;by_cases v:nC t.nr t.r=U/\nC t.nw t.wr=U/\t.ng<=3/\t.nc<=16;.obtain⟨k1,k2,k3,k4⟩:=v;go_enter aN,aP;go_wp2_with fail;refine(wF _ t.nr t.r _ z.r).to ?_;go_wp2_with fail;refine(wF _ t.nw t.wr _ z.wr).to ?_;go_wp2_with fail;go_loopw[5](λi wr=>∃k:Nat,k<=t.ng/\i=I H k/\jO (λi=>oS (t.g<|2*i)<|t.g<|2*i+1) k=U/\L (w.heap.size+1) (w.alloc<|ae #[F,vb,Z ag t.ng l,Z M t.nc f] 91) wr)(λi _=>t.ng-(intOf i).toNat);(case atStart=>exact⟨0,ak _,rfl,rfl,ah _ _⟩);case round=>obtain⟨k,hk,rfl,hh,a⟩:=hrel;have d:L w.heap.size w wr:=((ah _ _).alloc (aj _) _).trans<|a.mono (by omega);(have d2:wr.cell? ⟨w.heap.size,2,G⟩=E (Z ag t.ng l):=by rw[a.cell (p:=⟨w.heap.size,2,G⟩)<|by simp];simp);(have d3:wr.cell? ⟨w.heap.size,3,G⟩=E (Z M t.nc f):=by rw[a.cell (p:=⟨w.heap.size,3,G⟩)<|by simp];simp);(have S:w.heap.size+1<=wr.heap.size:=by have:=a.size;simpa using this);by_cases ad:k<t.ng;(.obtain⟨b,off,rfl,hb,u⟩:=A (by omega);(have c0:wr.cell? ⟨b,off+k*2,G⟩=E (I H<|t.g<|2*k):=by rw[d.cell (p:=⟨b,off+k*2,G⟩) hb,u _<|by omega,au]);(have c1:wr.cell? ⟨b,off+k*2+1,G⟩=E (I H<|t.g<|2*k+1):=by rw[d.cell (p:=⟨b,off+k*2+1,G⟩) hb,ar,u _<|by omega,au]);clear A u;(have s:oS (t.g<|2*k) (t.g<|2*k+1)=V->ld t=V:=λe=>by simp[ld,rm,vM (p:=λi=>oS (t.g<|2*i)<|t.g<|2*i+1) ad e]);have q:oS (t.g<|2*k) (t.g<|2*k+1)=U->jO (λi=>oS (t.g<|2*i)<|t.g<|2*i+1) (k+1)=U:=λe=>tN hh e;generalize t.g (2*k)=x at*;generalize t.g (2*k+1)=y at*;by_cases g1:x<0;(.have n:=s (by simp[oS,iX];omega);clear s q;go_wp2_with fail;go_quiet(fail);go_wp2_with fail;go_ret;exact⟨jd n.symm,below_drewN d _⟩);. (have am:decide (x<0)=V:=by simpa using g1);by_cases g2:99<y;(.have n:=s (by simp[oS,iX];omega);clear s q;go_wp2_with fail;go_quiet(fail);go_wp2_with fail;go_ret;exact⟨jd n.symm,below_drewN d _⟩);. (have ao:decide (99<y)=V:=by simpa using g2);by_cases g3:y<x;(.have n:=s (by simp[oS,iX];omega);clear s q;go_wp2_with fail;go_quiet(fail);go_wp2_with fail;go_ret;exact⟨jd n.symm,below_drewN d _⟩);.have K:=q (by simp[oS,iX];omega);clear s q;go_wp2_with fail;go_quiet(fail);go_wp2_with fail;go_roundw;(case rel=>exact⟨k+1,by omega,by go_num,K,below_drewN a _⟩);case measure=>simp[intOf];omega);. (have P:k=t.ng:=by omega);(have C:rm t.ng t.g=U:=by rw[P]at hh;simp[rm,hh,k3]);clear A P;go_wp2_with fail;go_loopw[6](λi wq=>∃j:Nat,j<=t.nc/\i=I H j/\jO (qG t) j=U/\L (w.heap.size+1) (w.alloc<|ae #[F,vb,Z ag t.ng l,Z M t.nc f] 91) wq)(λi _=>t.nc-(intOf i).toNat);(case atStart=>exact⟨0,ak _,rfl,rfl,a⟩);case round=>clear d d2 d3 S a;obtain⟨j,hj,rfl,hi,a⟩:=hrel;have d:L w.heap.size w wr:=((ah _ _).alloc (aj _) _).trans<|a.mono (by omega);(have d0:wr.cell? ⟨w.heap.size,0,G⟩=E F:=by rw[a.cell (p:=⟨w.heap.size,0,G⟩)<|by simp];simp);(have d1:wr.cell? ⟨w.heap.size,1,G⟩=E vb:=by rw[a.cell (p:=⟨w.heap.size,1,G⟩)<|by simp];simp);(have d2:wr.cell? ⟨w.heap.size,2,G⟩=E (Z ag t.ng l):=by rw[a.cell (p:=⟨w.heap.size,2,G⟩)<|by simp];simp);(have d3:wr.cell? ⟨w.heap.size,3,G⟩=E (Z M t.nc f):=by rw[a.cell (p:=⟨w.heap.size,3,G⟩)<|by simp];simp);(have S:w.heap.size+1<=wr.heap.size:=by have:=a.size;simpa using this);have hT:=h.below d;by_cases D:j<t.nc;(.cases hp:qG t j with|false=>go_wp2_with(go_at_call 101;refine(Kg _ _ _ _ t j D _ hT).mono ?_;rintro e R⟨rfl,B⟩);go_ret;exact⟨jd<|by simp[ld,wi,vM D hp],d.trans<|B.mono<|by omega⟩|true=>go_wp2_with(go_at_call 101;refine(Kg _ _ _ _ t j D _ hT).mono ?_;rintro e R⟨rfl,B⟩);go_roundw;(case rel=>exact⟨j+1,by omega,by go_num,tN hi hp,a.trans<|B.mono S⟩);case measure=>simp[intOf];omega);. (have Q:j=t.nc:=by omega);(have aa:ld t=U:=by rw[Q]at hi;simp[ld,wi,k1,k2,C,k4,hi]);clear Q;go_wp2_with fail;go_ret;exact⟨jd aa.symm,d⟩
 . (have m:ld t=V:=by cases e:ld t with|false=>rfl|true=>simp[ld,rm,wi]at e;exact absurd ⟨e.1.1.1,e.1.1.2,e.1.2.1,e.2.1⟩ v);cases k1:nC t.nr t.r;(.go_enter aN,aP;go_wp2_with fail;refine(wF _ t.nr t.r _ z.r).to ?_;go_wp2_with fail;refine(wF _ t.nw t.wr _ z.wr).to ?_;go_wp2_with fail;go_ret;first|exact⟨jd m.symm,o⟩|exact⟨rfl,o⟩);.cases k2:nC t.nw t.wr;(.go_enter aN,aP;go_wp2_with fail;refine(wF _ t.nr t.r _ z.r).to ?_;go_wp2_with fail;refine(wF _ t.nw t.wr _ z.wr).to ?_;go_wp2_with fail;go_ret;first|exact⟨jd m.symm,o⟩|exact⟨rfl,o⟩);.by_cases k3:3<t.ng;(.go_enter aN,aP;go_wp2_with fail;refine(wF _ t.nr t.r _ z.r).to ?_;go_wp2_with fail;refine(wF _ t.nw t.wr _ z.wr).to ?_;go_wp2_with fail;go_ret;first|exact⟨jd m.symm,o⟩|exact⟨rfl,o⟩);. (have k4:16<t.nc:=by rcases Nat.lt_or_ge 16 t.nc with T|T;(.exact T);.exact absurd ⟨k1,k2,by omega,T⟩ v);clear v;go_enter aN,aP;go_wp2_with fail;refine(wF _ t.nr t.r _ z.r).to ?_;go_wp2_with fail;refine(wF _ t.nw t.wr _ z.wr).to ?_;go_wp2_with fail;go_ret;first|exact⟨jd m.symm,o⟩|exact⟨rfl,o⟩
def mu(nb:Nat)(fb:Nat->Int)(a b c:Int)(nl:Nat)(ts:Nat->iP)(d:Nat)(fs:Nat->Int):Bool:=lh nb fb a b c&&(logAt nl ts).isNone&&(nZ d fs).isNone
def tq(a:Int)(f:Nat->Int):Nat->Int|0=>a|j+1=>f j
def NP(a:Int)(f:Nat->Int)(k:Nat):lZ (a+1) f k=(decide (tq a f k<f k)&&decide (f k<=99)):=by cases k with|zero=>simp only[lZ,iX,tq];congr 1|succ j=>simp only[lZ,iX,tq];congr 1
def V6{nl:Nat}{ts:Nat->iP}(h:nl<=24)(a:jO (λi=>ld<|ts i) nl=U):logAt nl ts=G:=by unfold logAt;rw[if_neg<|by omega,Ee a]
def abe{fs:Nat->Int}(h:v<=40)(a:jO (lZ 0 λi=>fs<|2*i) v=U):nZ v fs=G:=by unfold nZ;rw[if_neg<|by omega,Ee a]
def P5(vB vL vS:O)(nb:Nat)(fb:Nat->Int)(a b c:Int)(nl:Nat)(ts:Nat->iP)(s:Nat)(fs:Nat->Int)(w:J)(hB:iQ w vB 1 nb fb)(K:lI w vL nl ts)(hS:iQ w vS 2 s fs):N X 34 #[aq #[vB,I H a,I H b,I H c,vL,vS]] w λe w'=>e=W (ai<|mu nb fb a b c nl ts s fs)/\L w.heap.size w w':=by
 obtain⟨aB,C,rfl,ax,v⟩:=hB;obtain⟨aL,z,rfl,aw,u⟩:=id K;obtain⟨aS,x,rfl,ay,t⟩:=hS;have g:L w.heap.size w<|w.alloc<|ae #[Z aB nb C,I H a,I H b,I H c,Z aL nl z,Z aS s x] 42:=(ah _ _).alloc (aj _) _;have f:lh nb fb a b c=V->mu nb fb a b c nl ts s fs=V:=λh=>by simp[mu,h]
 cases P:iX a 1 8 with|false=>have n:=f (by simp[lh,P]);clear f v u t K;cases M:iX b 1 8<;>cases D:iX c 1 4;(all_goals go_enter aH,aI;go_wp2_with fail;refine(mi _ _ _ _).to ?_;rw[P];go_wp2_with fail;refine(mi _ _ _ _).to ?_;rw[M];go_wp2_with fail;refine(mi _ _ _ _).to ?_;rw[D];go_wp2_with fail;go_ret;first|exact⟨jd n.symm,g⟩|exact⟨rfl,g⟩)|true=>cases M:iX b 1 8 with|false=>have n:=f (by simp[lh,M]);clear f v u t K;cases D:iX c 1 4;(all_goals go_enter aH,aI;go_wp2_with fail;refine(mi _ _ _ _).to ?_;rw[P];go_wp2_with fail;refine(mi _ _ _ _).to ?_;rw[M];go_wp2_with fail;refine(mi _ _ _ _).to ?_;rw[D];go_wp2_with fail;go_ret;first|exact⟨jd n.symm,g⟩|exact⟨rfl,g⟩)|true=>cases D:iX c 1 4 with|false=>have n:=f (by simp[lh,D]);clear f v u t K;go_enter aH,aI;go_wp2_with fail;refine(mi _ _ _ _).to ?_;rw[P];go_wp2_with fail;refine(mi _ _ _ _).to ?_;rw[M];go_wp2_with fail;refine(mi _ _ _ _).to ?_;rw[D];go_wp2_with fail;go_ret;(first|exact⟨jd n.symm,g⟩|exact⟨rfl,g⟩)|true=>by_cases n1:3<nb;(.have n:=f (by simp[lh,vq];intro h;omega);clear f v u t K;go_enter aH,aI;go_wp2_with fail;refine(mi _ _ _ _).to ?_;rw[P];go_wp2_with fail;refine(mi _ _ _ _).to ?_;rw[M];go_wp2_with fail;refine(mi _ _ _ _).to ?_;rw[D];go_wp2_with fail;go_ret;first|exact⟨jd n.symm,g⟩|exact⟨rfl,g⟩);by_cases n2:24<nl;(. (have n:mu nb fb a b c nl ts s fs=V:=by simp[mu,logAt,n2]);clear f v u t K;go_enter aH,aI;go_wp2_with fail;refine(mi _ _ _ _).to ?_;rw[P];go_wp2_with fail;refine(mi _ _ _ _).to ?_;rw[M];go_wp2_with fail;refine(mi _ _ _ _).to ?_;rw[D];go_wp2_with fail;go_ret;first|exact⟨jd n.symm,g⟩|exact⟨rfl,g⟩);by_cases n3:40<s;(. (have n:mu nb fb a b c nl ts s fs=V:=by simp[mu,nZ,n3]);clear f v u t K;go_enter aH,aI;go_wp2_with fail;refine(mi _ _ _ _).to ?_;rw[P];go_wp2_with fail;refine(mi _ _ _ _).to ?_;rw[M];go_wp2_with fail;refine(mi _ _ _ _).to ?_;rw[D];go_wp2_with fail;go_ret;first|exact⟨jd n.symm,g⟩|exact⟨rfl,g⟩);(have az:decide (3<(nb:Int))=V:=by simp;omega);(have av:decide (24<(nl:Int))=V:=by simp;omega);(have aA:decide (40<(s:Int))=V:=by simp;omega);go_enter aH,aI;go_wp2_with fail;refine(mi _ _ _ _).to ?_;rw[P];go_wp2_with fail;refine(mi _ _ _ _).to ?_;rw[M];go_wp2_with fail;refine(mi _ _ _ _).to ?_;rw[D];go_wp2_with fail;go_loop[6,7](λl i=>∃k:Nat,k<=nb/\i=I H k/\l=I H (tq 0 fb k)/\jO (lZ 1 fb) k=U)(λ_ i=>nb-(intOf i).toNat);(case atStart=>exact⟨0,ak _,rfl,rfl,rfl⟩);case round=>obtain⟨k,hk,rfl,rfl,B⟩:=hrel;by_cases ao:k<nb;(.obtain⟨bb,off,rfl,Q,d⟩:=v (by omega);(have c0:(w.alloc<|ae #[Z (E ⟨bb,off,G⟩) nb C,I H a,I H b,I H c,Z aL nl z,Z aS s x] 42).cell? ⟨bb,off+k,G⟩=E (I H<|fb k):=by rw[g.cell (p:=⟨bb,off+k,G⟩) Q,d _<|by omega]);have A:lZ 1 fb k=(decide (tq 0 fb k<fb k)&&decide (fb k<=99)):=NP 0 fb k;have r:lZ 1 fb k=V->Hid (mu nb fb a b c nl ts s fs=V):=λe=>f (by simp[lh,vq,vM ao e]);have m:lZ 1 fb k=U->Hid (jO (lZ 1 fb) (k+1)=U):=λe=>tN B e;have T:Hid<|tq 0 fb (k+1)=fb k:=rfl;clear v u t K d f B;generalize tq 0 fb k=l at*;by_cases e1:fb k<=l;(.have n:=r (by rw[A];simp;omega);clear r m A;go_wp2_with fail;go_ret;exact⟨jd n.out.symm,g⟩);. (have ap:decide (fb k<=l)=V:=by simpa using e1);by_cases e2:99<fb k;(.have n:=r (by rw[A];simp;omega);clear r m A;go_wp2_with fail;go_ret;exact⟨jd n.out.symm,g⟩);. (have am:decide (99<fb k)=V:=by simpa using e2);have n:=m (by rw[A];simp;omega);clear r m A;go_wp2_with fail;go_round;(case rel=>exact⟨k+1,by omega,by go_num,by rw[T.out],n.out⟩);case measure=>simp[intOf];omega);. (have ad:Hid<|lh nb fb a b c=U:=by(have:k=nb:=by omega);rw[this]at B;show lh nb fb a b c=U;simp[lh,vq,B,P,M,D];omega);clear v f B;generalize tq 0 fb k=l at*;go_wp2_with fail;go_loopw[8](λi wq=>∃j:Nat,j<=nl/\i=I H j/\Hid (jO (λi=>ld<|ts i) j=U)/\L (w.heap.size+1) (w.alloc<|ae #[Z aB nb C,I H a,I H b,I H c,Z aL nl z,Z aS s x] 42) wq)(λi _=>nl-(intOf i).toNat);(case atStart=>exact⟨0,ak _,rfl,rfl,ah _ _⟩);case round=>obtain⟨j,hj,rfl,hi,F⟩:=hrel;have o:L w.heap.size w wr:=g.trans<|F.mono (by omega);(have d4:wr.cell? ⟨w.heap.size,4,G⟩=E (Z aL nl z):=by rw[F.cell (p:=⟨w.heap.size,4,G⟩)<|by simp];simp);(have d5:wr.cell? ⟨w.heap.size,5,G⟩=E (Z aS s x):=by rw[F.cell (p:=⟨w.heap.size,5,G⟩)<|by simp];simp);(have hz:w.heap.size+1<=wr.heap.size:=by have:=F.size;simpa using this);by_cases al:j<nl;(.obtain⟨S,off,rfl,Q,R,d,ht⟩:=u (by omega);(have c0:wr.cell? ⟨S,off+j*4,G⟩=E (R<|j*4):=by rw[o.cell (p:=⟨S,off+j*4,G⟩) Q,d _<|by omega]);(have c1:wr.cell? ⟨S,off+j*4+1,G⟩=E (R<|j*4+1):=by rw[o.cell (p:=⟨S,off+j*4+1,G⟩) Q,ar,d _<|by omega]);(have c2:wr.cell? ⟨S,off+j*4+2,G⟩=E (R<|j*4+2):=by rw[o.cell (p:=⟨S,off+j*4+2,G⟩) Q,ar,d _<|by omega]);(have c3:wr.cell? ⟨S,off+j*4+3,G⟩=E (R<|j*4+3):=by rw[o.cell (p:=⟨S,off+j*4+3,G⟩) Q,ar,d _<|by omega]);have hT:=(ht j al).below o;generalize R (j*4)=x0 at*;generalize R (j*4+1)=x1 at*;generalize R (j*4+2)=x2 at*;generalize R (j*4+3)=x3 at*;clear u d ht K;cases hp:ld (ts j)with|false=>(have n:Hid<|mu nb fb a b c nl ts s fs=V:=by show mu nb fb a b c nl ts s fs=V;(have:logAt nl ts=E j:=by unfold logAt;rw[if_neg n2,EV al hi.out hp]);simp[mu,this]);go_wp2_with(go_at_call 61;refine(Lb _ _ _ _ (ts j) _ hT).mono ?_;rintro e w'⟨rfl,aa⟩);go_ret;exact⟨jd n.out.symm,o.trans<|aa.mono o.size⟩|true=>have HP:Hid<|_=_:=hp;go_wp2_with(go_at_call 61;refine(Lb _ _ _ _ (ts j) _ hT).mono ?_;rintro e w'⟨rfl,aa⟩);go_roundw;(case rel=>exact⟨j+1,by omega,by go_num,tN hi.out HP.out,F.trans<|aa.mono hz⟩);case measure=>simp[intOf];omega);. (have ac:Hid<|logAt nl ts=G:=by(have:j=nl:=by omega);rw[this]at hi;exact V6 (by omega) hi.out);clear u K hi;go_wp2_with fail;go_loop[6,10](λl i=>∃k:Nat,k<=s/\i=I H k/\l=I H (tq (-1) (λi=>fs<|2*i) k)/\jO (lZ 0 λi=>fs<|2*i) k=U)(λ_ i=>s-(intOf i).toNat);(case atStart=>exact⟨0,ak _,rfl,rfl,rfl⟩);case round=>obtain⟨q,hq,rfl,rfl,B⟩:=hrel;by_cases an:q<s;(.obtain⟨bb,off,rfl,Q,d⟩:=t (by omega);(have c0:wr.cell? ⟨bb,off+q*2,G⟩=E (I H<|fs<|2*q):=by rw[o.cell (p:=⟨bb,off+q*2,G⟩) Q,d _<|by omega,au]);have A:lZ 0 (λi=>fs<|2*i) q=(decide (tq (-1) (λi=>fs<|2*i) q<fs (2*q))&&decide (fs (2*q)<=99)):=NP (-1) (λi=>fs<|2*i) q;(have r:lZ 0 (λi=>fs<|2*i) q=V->Hid (mu nb fb a b c nl ts s fs=V):=λe=>by show mu nb fb a b c nl ts s fs=V;(have:nZ s fs=E q:=by unfold nZ;rw[if_neg n3,EV an B e]);simp[mu,this]);have m:lZ 0 (λi=>fs<|2*i) q=U->Hid (jO (lZ 0 λi=>fs<|2*i) (q+1)=U):=λe=>tN B e;have T:Hid<|tq (-1) (λi=>fs<|2*i) (q+1)=fs (2*q):=rfl;clear t d B;generalize tq (-1) (λi=>fs<|2*i) q=l' at*;generalize fs (2*q)=y at*;by_cases e1:y<=l';(.have n:=r (by rw[A];simp;omega);clear r m A;go_wp2_with fail;go_ret;exact⟨jd n.out.symm,o⟩);. (have ap:decide (y<=l')=V:=by simpa using e1);by_cases e2:99<y;(.have n:=r (by rw[A];simp;omega);clear r m A;go_wp2_with fail;go_ret;exact⟨jd n.out.symm,o⟩);. (have am:decide (99<y)=V:=by simpa using e2);have n:=m (by rw[A];simp;omega);clear r m A;go_wp2_with fail;go_round;(case rel=>exact⟨q+1,by omega,by go_num,by rw[T.out],n.out⟩);case measure=>simp[intOf];omega);. (have n:Hid<|mu nb fb a b c nl ts s fs=U:=by(have:q=s:=by omega);rw[this]at B;show mu nb fb a b c nl ts s fs=U;simp[mu,ad.out,ac.out,abe (by omega) B]);clear t B;generalize tq (-1) (λi=>fs<|2*i) q=l' at*;go_wp2_with fail;go_ret;exact⟨jd n.out.symm,o⟩
def jN(p:Nat->Bool):Nat->Nat|0=>0|k+1=>jN p k+(if p k then 1 else 0)
def qN(p:Nat->Bool):∀n,jN p n<=n|0=>aj _|n+1=>by have:=qN p n;simp only[jN];split<;>omega
def tU{p:Nat->Bool}{k:Nat}(h:p k=U):jN p (k+1)=jN p k+1:=by simp[jN,h]
def vt{p:Nat->Bool}{k:Nat}(h:p k=V):jN p (k+1)=jN p k:=by simp[jN,h]
def j8(nb:Nat)(fb:Nat->Int)(x:Int):Nat:=jN (λi=>decide<|fb i<=x) nb
structure iT where
 nb:Nat
 fb:Nat->Int
 nl:Nat
 ts:Nat->iP
structure mn(w:J)(e:Nat)(D:iT)(vB vL:O):Prop where
 lt:e<w.heap.size
 c0:w.cell? ⟨e,0,none⟩=some vB
 c4:w.cell? ⟨e,4,none⟩=some vL
 b:iQ w vB 1 D.nb D.fb
 l:lI w vL D.nl D.ts
def mn.below{w:J}{e:Nat}{D:iT}(h:mn w e D j k)(a:L w.heap.size w g):mn g e D j k:=⟨aD h.lt a.size,by rw[a.cell (p:=⟨e,0,G⟩) h.lt];exact h.c0,by rw[a.cell (p:=⟨e,4,G⟩) h.lt];exact h.c4,h.b.below a,h.l.below a⟩
def zI(e:Nat)(D:iT)(q o:O)(x:Int)(w:J)(h:mn w e D q o):N X 71 #[Y<|E ⟨e,0,G⟩,I H x] w λe m=>e=W (I H (j8 D.nb D.fb x:Nat))/\m=w:=by
 obtain⟨a,cap,rfl,t,j⟩:=id h.b;have r:=h.c0;obtain⟨nb,fb,nl,ts⟩:=D;dsimp only at*;clear h;go_enter Tryz.func71,Tryz.ntmps71;go_wp2;go_loop[5,14](λc i=>∃k:Nat,k<=nb/\i=I H k/\c=I H (jN (λi=>decide<|fb i<=x) k:Nat))(λ_ i=>nb-(intOf i).toNat);case atStart=>exact⟨0,ak _,rfl,rfl⟩
 case round=>obtain⟨k,hk,rfl,rfl⟩:=hrel;have n:=qN (λi=>decide<|fb i<=x) k;by_cases l:k<nb;(.obtain⟨b,off,rfl,s,d⟩:=j (by omega);simp only[aG]at d;clear j;by_cases g:fb k<=x;(.have hs:=tU (p:=λi=>decide<|fb i<=x) (k:=k) (by simpa using g);have f:Hid<|_=_:=hs;clear hs;go_wp2;go_round;(case rel=>exact⟨k+1,by omega,by go_num,by rw[f.out];go_num⟩);case measure=>simp[intOf];omega);.have hs:=vt (p:=λi=>decide<|fb i<=x) (k:=k) (by simpa using g);have f:Hid<|_=_:=hs;clear hs;go_wp2;go_round;(case rel=>exact⟨k+1,by omega,by go_num,by rw[f.out]⟩);case measure=>simp[intOf];omega);.go_wp2;go_ret;(have:k=nb:=by omega);subst this;exact⟨rfl,rfl⟩
def I4(e:Nat)(D:iT)(f c:O)(w:J)(h:mn w e D f c):N X 68 #[Y<|E ⟨e,0,G⟩] w λe d=>e=W (I H<|(D.nb:Int)+1)/\d=w:=by obtain⟨a,cap,rfl,g,j⟩:=id h.b;have i:=h.c0;go_enter Tryz.func68,Tryz.ntmps68;go_wp2;go_ret;exact⟨rfl,rfl⟩
def BE(e:Nat)(D:iT)(b c:O)(p:Int)(w:J)(h:mn w e D b c):N X 38 #[Y<|E ⟨e,0,G⟩,I H p] w λe d=>e=W (ai<|iX p 0 D.nb)/\d=w:=by
 by_cases a:0<=p;.go_enter bJ,bK;go_wp2_with(go_at_call 68;refine(I4 _ D b c _ h).to ?_);go_ret;refine⟨jd ?_,rfl⟩;rw[iX,decide_eq_true a,bM,decide_eq_decide];omega
 . (have hd:decide (0<=p)=V:=by simpa using a);go_enter bJ,bK;go_wp2_with fail;go_ret;exact⟨jd<|by simp[iX,hd],rfl⟩
def Ld(bk a e:Nat)(D:iT)(c b:O)(p x:Int)(w:J)(h:mn w e D c b)(hk:w.cell? ⟨bk,0,G⟩=E (Y<|E ⟨e,0,G⟩))(f:w.cell? ⟨a,0,G⟩=E (I H p)):N X 70 #[I H x,Y<|E ⟨bk,0,G⟩,Y<|E ⟨a,0,G⟩] w λe d=>e=W (ai<|(j8 D.nb D.fb x:Int)==p)/\L w.heap.size w d:=by go_enter Tryz.func70,Tryz.ntmps70;go_wp2_with fail;go_quiet((go_at_call 71;exact aZ<|zI _ D c b _ _<|h.below<|below_drewN (ah _ _) _));go_wp2_with fail;go_ret;exact⟨rfl,below_drewN (ah _ _) _⟩
def uq(nb:Nat)(fb:Nat->Int)(p lo hi:Int):Bool:=decide ((j8 nb fb lo:Int)<=p)&&decide (p<=(j8 nb fb hi:Int))
def NK(bk c e:Nat)(D:iT)(b a:O)(p lo hi:Int)(w:J)(h:mn w e D b a)(hk:w.cell? ⟨bk,0,G⟩=E (Y<|E ⟨e,0,G⟩))(f:w.cell? ⟨c,0,G⟩=E (I H p)):N X 72 #[aq #[I H lo,I H hi],Y<|E ⟨bk,0,G⟩,Y<|E ⟨c,0,G⟩] w λe i=>e=W (ai<|uq D.nb D.fb p lo hi)/\L w.heap.size w i:=by
 have d:=h.below<|(ah _ _).alloc (aj _)<|ae #[I H lo,I H hi] 159;have lk:=az _ _ hk;have lp:=az _ _ f;by_cases g:(j8 D.nb D.fb lo)<=p;.go_enter bN,bO;go_wp2_with fail;go_quiet((go_at_call 71;exact aZ<|zI _ D b a _ _<|d.below<|below_drewN (ah _ _) _));go_wp2_with fail;go_ret;exact⟨jd<|by simp[uq,g],below_drewN ((ah _ _).alloc (aj _) _) _⟩
 . (have hd:decide ((j8 D.nb D.fb lo)<=p)=V:=by simpa using g);go_enter bN,bO;go_wp2_with fail;go_quiet((go_at_call 71;exact aZ<|zI _ D b a _ _<|d.below<|below_drewN (ah _ _) _));go_wp2_with fail;go_ret;exact⟨jd<|by simp[uq,hd],below_drewN ((ah _ _).alloc (aj _) _) _⟩
def afp(v:O)(n:Nat)(f:Nat->Int)(bk q e:Nat)(D:iT)(s x:O)(p:Int)(w:J)(h:mn w e D s x)(M:iQ w v 1 n f)(hk:w.cell? ⟨bk,0,G⟩=E (Y<|E ⟨e,0,G⟩))(A:w.cell? ⟨q,0,G⟩=E (I H p)):N X 114 #[v,aV (.func 70) #[] #[Y<|E ⟨bk,0,G⟩,Y<|E ⟨q,0,G⟩]] w λe y=>∃r:Int,e=W (I H r)/\decide (0<=r)=kq (λi=>(j8 D.nb D.fb<|f i:Int)==p) n/\L w.heap.size w y:=by
 have lk:=az _ _ hk;have lp:=az _ _ A;obtain⟨a,cap,rfl,Q,B⟩:=M;go_enter Tryz.func114,Tryz.ntmps114;go_wp2;go_loopw[8](λi wr=>∃k:Nat,k<=n/\i=I H k/\kq (λi=>(j8 D.nb D.fb<|f i:Int)==p) k=V/\L w.heap.size w wr)(λi _=>n-(intOf i).toNat);case atStart=>exact⟨0,ak _,rfl,rfl,ah _ _⟩
 case round=>obtain⟨k,K,rfl,z,c⟩:=hrel;by_cases t:k<n;(.obtain⟨b,off,rfl,P,g⟩:=B (by omega);(have c0:wr.cell? ⟨b,off+k,G⟩=E (I H<|f k):=by rw[c.cell P,g _<|by omega]);(have m:wr.cell? ⟨bk,0,G⟩=E (Y<|E ⟨e,0,G⟩):=by rw[c.cell lk];exact hk);(have o:wr.cell? ⟨q,0,G⟩=E (I H p):=by rw[c.cell lp];exact A);have j:((j8 D.nb D.fb<|f k:Int)==p)=U->kq (λi=>(j8 D.nb D.fb<|f i:Int)==p) n=U:=λe=>nW t e;have u:=λe=>xi z e;cases l:((j8 D.nb D.fb<|f k:Int)==p)with|true=>have F:Hid<|_=_:=j l;go_wp2_with(go_at_call 70;refine(Ld bk q e D s x p _ _ (h.below c) m o).mono ?_;rintro e y⟨rfl,d⟩);go_ret;refine⟨k,rfl,?_,c.trans<|d.mono c.size⟩;rw[F.out];simp|false=>have C:Hid<|_=_:=u l;go_wp2_with(go_at_call 70;refine(Ld bk q e D s x p _ _ (h.below c) m o).mono ?_;rintro e y⟨rfl,d⟩);go_roundw;(case rel=>exact⟨k+1,by omega,by go_num,C.out,c.trans<|d.mono c.size⟩);case measure=>simp[intOf];omega);.go_wp2;go_ret;(have:k=n:=by omega);subst this;refine⟨-1,rfl,?_,c⟩;rw[z];rfl
def afq(v:O)(n:Nat)(f:Nat->Int)(bk q e:Nat)(D:iT)(s x:O)(p:Int)(w:J)(h:mn w e D s x)(F:iQ w v 2 n f)(hk:w.cell? ⟨bk,0,G⟩=E (Y<|E ⟨e,0,G⟩))(B:w.cell? ⟨q,0,G⟩=E (I H p)):N X 115 #[v,aV (.func 72) #[] #[Y<|E ⟨bk,0,G⟩,Y<|E ⟨q,0,G⟩]] w λe y=>∃r:Int,e=W (I H r)/\decide (0<=r)=kq (λi=>uq D.nb D.fb p (f<|2*i)<|f<|2*i+1) n/\L w.heap.size w y:=by
 have lk:=az _ _ hk;have lp:=az _ _ B;obtain⟨a,cap,rfl,Q,C⟩:=F;go_enter Tryz.func115,Tryz.ntmps115;go_wp2;go_loopw[8](λi wr=>∃k:Nat,k<=n/\i=I H k/\kq (λi=>uq D.nb D.fb p (f<|2*i)<|f<|2*i+1) k=V/\L w.heap.size w wr)(λi _=>n-(intOf i).toNat);case atStart=>exact⟨0,ak _,rfl,rfl,ah _ _⟩
 case round=>obtain⟨k,K,rfl,z,c⟩:=hrel;by_cases t:k<n;(.obtain⟨b,off,rfl,A,d⟩:=C (by omega);(have c0:wr.cell? ⟨b,off+k*2,G⟩=E (I H<|f<|2*k):=by rw[c.cell A,d _<|by omega,au]);(have c1:wr.cell? ⟨b,off+k*2+1,G⟩=E (I H<|f<|2*k+1):=by rw[c.cell A,ar,d _<|by omega,au]);(have m:wr.cell? ⟨bk,0,G⟩=E (Y<|E ⟨e,0,G⟩):=by rw[c.cell lk];exact hk);(have o:wr.cell? ⟨q,0,G⟩=E (I H p):=by rw[c.cell lp];exact B);have j:(uq D.nb D.fb p (f<|2*k)<|f<|2*k+1)=U->kq (λi=>uq D.nb D.fb p (f<|2*i)<|f<|2*i+1) n=U:=λe=>nW t e;have u:=λe=>xi z e;cases l:(uq D.nb D.fb p (f<|2*k)<|f<|2*k+1)with|true=>have M:Hid<|_=_:=j l;go_wp2_with(go_at_call 72;refine(NK bk q e D s x p _ _ _ (h.below c) m o).mono ?_;rintro e y⟨rfl,g⟩);go_ret;refine⟨k,rfl,?_,c.trans<|g.mono c.size⟩;rw[M.out];simp|false=>have P:Hid<|_=_:=u l;go_wp2_with(go_at_call 72;refine(NK bk q e D s x p _ _ _ (h.below c) m o).mono ?_;rintro e y⟨rfl,g⟩);go_roundw;(case rel=>exact⟨k+1,by omega,by go_num,P.out,c.trans<|g.mono c.size⟩);case measure=>simp[intOf];omega);.go_wp2;go_ret;(have:k=n:=by omega);subst this;refine⟨-1,rfl,?_,c⟩;rw[z];rfl
def wJ(D:iT)(p:Int)(n:Nat)(f:Nat->Int):Bool:=kq (λi=>(j8 D.nb D.fb<|f i:Int)==p) n
def FP(D:iT)(p:Int)(n:Nat)(f:Nat->Int):Bool:=kq (λi=>uq D.nb D.fb p (f<|2*i)<|f<|2*i+1) n
def jE(D:iT)(i:Nat)(p:Int):Bool:=if(D.ts i).nr+(D.ts i).nw+(D.ts i).ng=0 then p==0 else wJ D p (D.ts i).nr (D.ts i).r||wJ D p (D.ts i).nw (D.ts i).wr||FP D p (D.ts i).ng (D.ts i).g
def El(v:O)(n:Nat)(f:Nat->Int)(bk a e:Nat)(D:iT)(g i:O)(p:Int)(w:J)(h:mn w e D g i)(k:iQ w v 1 n f)(hk:w.cell? ⟨bk,0,G⟩=E (Y<|E ⟨e,0,G⟩))(j:w.cell? ⟨a,0,G⟩=E (I H p)):N X 73 #[v,aV (.func 70) #[] #[Y<|E ⟨bk,0,G⟩,Y<|E ⟨a,0,G⟩]] w λe d=>e=W (ai<|wJ D p n f)/\L w.heap.size w d:=by go_enter Tryz.func73,Tryz.ntmps73;go_wp2_with(go_at_call 114;refine(afp _ n f bk a e D g i p _ h k hk j).mono ?_;rintro e d⟨r,rfl,c,b⟩;have l:Hid<|_=_:=c;clear c);go_ret;exact⟨jd l.out,b⟩
def abz(v:O)(n:Nat)(f:Nat->Int)(bk a e:Nat)(D:iT)(g i:O)(p:Int)(w:J)(h:mn w e D g i)(k:iQ w v 2 n f)(hk:w.cell? ⟨bk,0,G⟩=E (Y<|E ⟨e,0,G⟩))(j:w.cell? ⟨a,0,G⟩=E (I H p)):N X 74 #[v,aV (.func 72) #[] #[Y<|E ⟨bk,0,G⟩,Y<|E ⟨a,0,G⟩]] w λe d=>e=W (ai<|FP D p n f)/\L w.heap.size w d:=by go_enter Tryz.func74,Tryz.ntmps74;go_wp2_with(go_at_call 115;refine(afq _ n f bk a e D g i p _ h k hk j).mono ?_;rintro e d⟨r,rfl,c,b⟩;have l:Hid<|_=_:=c;clear c);go_ret;exact⟨jd l.out,b⟩
def yr(e:Nat)(D:iT)(v vL:O)(i:Nat)(p:Int)(hi:i<D.nl)(w:J)(h:mn w e D v vL):N X 43 #[Y<|E ⟨e,0,G⟩,I H i,I H p] w λe w'=>e=W (ai<|jE D i p)/\L w.heap.size w w':=by
 have ac:=h.lt;have h0:=h.c0;have h4:=h.c4;obtain⟨a,cap,rfl,hn,m⟩:=id h.l;obtain⟨b,off,rfl,hb,n,d,ht⟩:=m (by omega);have c0:w.cell? ⟨b,off+i*4,G⟩=E (n<|i*4):=by rw[d _<|by omega]
 have c1:w.cell? ⟨b,off+i*4+1,G⟩=E (n<|i*4+1):=by rw[ar,d _<|by omega]
 have c2:w.cell? ⟨b,off+i*4+2,G⟩=E (n<|i*4+2):=by rw[ar,d _<|by omega]
 have c3:w.cell? ⟨b,off+i*4+3,G⟩=E (n<|i*4+3):=by rw[ar,d _<|by omega]
 have A:=ht i hi;generalize n (i*4)=x0 at*;generalize n (i*4+1)=x1 at*;generalize n (i*4+2)=x2 at*;generalize n (i*4+3)=x3 at*;clear m d ht;obtain⟨a0,p0,rfl,m0,-⟩:=id A.r;obtain⟨a1,p1,rfl,m1,-⟩:=id A.wr;obtain⟨C,K,rfl,m2,-⟩:=id A.g;obtain⟨a3,p3,rfl,m3,-⟩:=id A.c;have k:L w.heap.size w<|((w.alloc<|ae #[Y<|E ⟨e,0,G⟩] 122).alloc<|ae #[I H p] 3).alloc<|ae #[Z a0 (D.ts i).nr p0,Z a1 (D.ts i).nw p1,Z C (D.ts i).ng K,Z a3 (D.ts i).nc p3] 91:=(((ah _ _).alloc (aj _) _).alloc (by simp) _).alloc (by simp;omega) _;have T:=h.below k;have t:=A.below k;by_cases hz:(D.ts i).nr+(D.ts i).nw+(D.ts i).ng=0;. (have hd:jE D i p=(p==0):=by simp[jE,hz]);have x:Hid<|_=_:=hd;(have e1:(((D.ts i).nr:Int)+(D.ts i).nw+(D.ts i).ng==0)=U:=by simp;omega);clear hd;go_enter bd,bg;go_wp2_with fail;go_ret;exact⟨jd x.out.symm,k⟩
 . (have e1:(((D.ts i).nr:Int)+(D.ts i).nw+(D.ts i).ng==0)=V:=by simp;omega);(have hd:jE D i p=(wJ D p (D.ts i).nr (D.ts i).r||wJ D p (D.ts i).nw (D.ts i).wr||FP D p (D.ts i).ng (D.ts i).g):=by simp only[jE,if_neg hz]);have x:Hid<|_=_:=hd;cases q1:wJ D p (D.ts i).nr (D.ts i).r with|true=>go_enter bd,bg;go_wp2_with fail;refine(El _ (D.ts i).nr (D.ts i).r (w.heap.size) (w.heap.size+1) e D v _ p _ T t.r (by go_simp)<|by go_simp).mono ?_;rintro B u⟨rfl,j⟩;go_wp2_with fail;go_ret;exact⟨jd<|by rw[x.out,q1];simp,k.trans<|j.mono<|by simp;omega⟩|false=>go_enter bd,bg;go_wp2_with fail;refine(El _ (D.ts i).nr (D.ts i).r (w.heap.size) (w.heap.size+1) e D v _ p _ T t.r (by go_simp)<|by go_simp).mono ?_;rintro B u⟨rfl,j⟩;(have z4:w.heap.size+3<=u.heap.size:=by have:=j.size;simpa using this);have q:=T.below j;have s:=t.below j;have o:=k.trans<|j.mono (by simp;omega);obtain⟨m,hf⟩:=Eh j;(have F:u.cell? ⟨w.heap.size,0,G⟩=E (Y<|E ⟨e,0,G⟩):=by rw[m _ _<|by simp;omega];go_simp);(have k1:u.cell? ⟨w.heap.size+1,0,G⟩=E (I H p):=by rw[m _ _<|by simp];go_simp);(have j1:u.cell? ⟨w.heap.size+2,1,G⟩=E (Z a1 (D.ts i).nw p1):=by rw[m _ _<|by simp];go_simp);(have j2:u.cell? ⟨w.heap.size+2,2,G⟩=E (Z C (D.ts i).ng K):=by rw[m _ _<|by simp];go_simp);cases q2:wJ D p (D.ts i).nw (D.ts i).wr with|true=>go_wp2_with fail;refine(El _ (D.ts i).nw (D.ts i).wr (w.heap.size) (w.heap.size+1) e D v _ p _ q s.wr F k1).mono ?_;rintro B y⟨rfl,f⟩;go_wp2_with fail;go_ret;exact⟨jd<|by rw[x.out,q2];simp,o.trans<|f.mono<|by omega⟩|false=>go_wp2_with fail;refine(El _ (D.ts i).nw (D.ts i).wr (w.heap.size) (w.heap.size+1) e D v _ p _ q s.wr F k1).mono ?_;rintro B y⟨rfl,f⟩;(have z5:w.heap.size+3<=y.heap.size:=by have:=f.size;omega);have M:=q.below f;have S:=s.below f;have z:=o.trans<|f.mono (by omega);obtain⟨m,hf⟩:=Eh f;(have Q:y.cell? ⟨w.heap.size,0,G⟩=E (Y<|E ⟨e,0,G⟩):=by rw[m _ _<|by omega];exact F);(have R:y.cell? ⟨w.heap.size+1,0,G⟩=E (I H p):=by rw[m _ _<|by omega];exact k1);(have aa:y.cell? ⟨w.heap.size+2,2,G⟩=E (Z C (D.ts i).ng K):=by rw[m _ _<|by omega];exact j2);go_wp2_with fail;refine(abz _ (D.ts i).ng (D.ts i).g (w.heap.size) (w.heap.size+1) e D v _ p _ M S.g Q R).mono ?_;rintro B w6⟨rfl,P⟩;go_wp2_with fail;go_ret;exact⟨jd<|by rw[x.out,q1,q2];simp,z.trans<|P.mono<|by omega⟩
def pC(p:Nat->Bool):Nat->Nat->Nat|0,i=>i|m+1,i=>if p i then i else pC p m (i+1)
def yD(D:iT)(p:Int):Nat:=pC (λi=>jE D i p) D.nl 0
def EK{p:Nat->Bool}:∀(m i k:Nat),i<=k->k<i+m->(∀j,i<=j->j<k->p j=V)->p k=U->pC p m i=k|0,i,k,c,d,_,_=>by omega|m+1,i,k,c,d,b,a=>by unfold pC;by_cases e:i=k;(.subst e;rw[if_pos a]);.rw[if_neg<|by simp[b i (aj _)<|by omega]];exact EK m (i+1) k (by omega) (by omega) (λj h f=>b j (by omega) f) a
def ET{p:Nat->Bool}:∀(m i:Nat),(∀j,i<=j->j<i+m->p j=V)->pC p m i=i+m|0,i,_=>rfl|m+1,i,h=>by unfold pC;rw[if_neg<|by simp[h i (aj _)<|by omega],ET m (i+1) λj a b=>h j (by omega)<|by omega];omega
def UK(e:Nat)(D:iT)(g u:O)(p:Int)(w:J)(h:mn w e D g u):N X 102 #[Y<|E ⟨e,0,G⟩,I H p,I H 0] w λe o=>e=W (I H (yD D p:Nat))/\L w.heap.size w o:=by
 have s:=h.lt;obtain⟨a,cap,rfl,v,-⟩:=id h.l;go_enter Tryz.func102,Tryz.ntmps102;go_wp2;go_loopw[7](λi wr=>∃k:Nat,k<=D.nl/\i=I H k/\kq (λi=>jE D i p) k=V/\L w.heap.size w wr)(λi _=>D.nl-(intOf i).toNat);case atStart=>exact⟨0,ak _,rfl,rfl,ah _ _⟩
 case round=>obtain⟨k,hk,rfl,n,b⟩:=hrel;have f:=h.below b;have c4:=f.c4;by_cases d:k<D.nl;(.cases q:jE D k p with|true=>have m:Hid<|yD D p=k:=EK D.nl 0 k (by omega) (by omega) (λj _ r=>Np n j r) q;go_wp2_with(go_at_call 43;refine(yr _ D g _ k p d _ f).mono ?_;rintro t o⟨rfl,c⟩);go_ret;exact⟨by rw[m.out];rfl,b.trans<|c.mono b.size⟩|false=>go_wp2_with(go_at_call 43;refine(yr _ D g _ k p d _ f).mono ?_;rintro t o⟨rfl,c⟩);go_roundw;(case rel=>exact⟨k+1,by omega,by go_num,xi n q,b.trans<|c.mono b.size⟩);case measure=>simp[intOf];omega);. (have m:Hid<|yD D p=D.nl:=by have:=ET D.nl 0 λj _ r=>Np n j (by omega);simpa[yD,Hid]using this);go_wp2_with fail;go_ret;exact⟨by rw[m.out];rfl,b⟩
def uk(t:iP)(x:Int)(i:Nat):Bool:=decide (t.g (2*i)<=x)&&decide (x<=t.g (2*i+1))
def ks(t:iP)(x:Int):Bool:=hasB t.nr t.r x||kq (uk t x) t.ng||hasB t.nw t.wr x
def FD(D:iT)(i:Nat)(p:Int):Bool:=kq (λk=>ks (D.ts i) k&&((j8 D.nb D.fb k:Int)==p)) 100||(!(kq (λk=>ks (D.ts i) k) 100)&&p==0)
section
variable(x:Nat)(D:iT)(vB vL:O)(hs:Nat->Nat->Bool)(vl:Nat->Nat->Int)(w:J)
def uf(nb:Nat)(p q:Int):Bool:=iX p 0 nb&&iX q 0 nb&&!(p==q)
end
def Tryz.BX:(Tryz.prog.info? 81).map (λi=>(i.zero,i.size,i.bytes))=E (E<|aq #[I H 0,I H 0],2,16):=by kernel_rfl
def uY(hs:Nat->Bool)(vl:Nat->Int):Nat->List O|0=>[]|k+1=>uY hs vl k++(if hs k then[I H k,I H<|vl k]else[])
def Zd{hs:Nat->Bool}{vl:Nat->Int}{k:Nat}(h:hs k=U):uY hs vl (k+1)=uY hs vl k++[I H k,I H<|vl k]:=by simp[uY,h]
def YK{hs:Nat->Bool}{vl:Nat->Int}{k:Nat}(h:hs k=V):uY hs vl (k+1)=uY hs vl k:=by simp[uY,h]
end
section
open Go.RowKit Go.Maps
def vV:Keyed X 3:=int_keyed aW
def Eu(w:J):(zeroValue 3).run X w=.ok (I H 0) w:=by kernel_rfl
def xp{n:Nat}(h:n<100):(Lit.int H (n:Int)).wf=U:=by exact WalkArith.wf_i64<|by omega
def VL{k:IntKind}{a b:Int}(h:(DataW.lit<|.int k a:DataW Unit)=.lit (.int k b)):a=b:=by grind
def GZ(a:DataW Unit)(hs:Nat->Bool)(vl:Nat->Int):Prop:=∀k:Nat,k<100->Maps.has a (.int H k)=hs k/\(hs k=U->a.atKey (.int H k) (.lit<|.int H 0)=.lit (.int H<|vl k))
end
section
open Go.RowKit
section
variable{P:aF}{ops:Array an}{Q:Exit->Act->J->Prop}{md:bP}
def vu(ops:Array an)(a:Act)(k:Nat):O:=match(ops[k]?).bind (·.dst)with|E d=>a.tmps.getD d ao|G=>ao
structure xv(ops:Array an)(a0 a:Act):Prop where
 size:a.tmps.size=a0.tmps.size
 defers:a.defers=a0.defers
 out:∀t,(∀j:Nat,(ops[j]?).bind (·.dst)≠some t)->a.tmps.getD t undef=a0.tmps.getD t undef
def BV(a:Act)(d:Option Tmp)(v:O)(t:Nat):(a.put d v).tmps.getD t ao=if d=E t/\t<a.tmps.size then v else a.tmps.getD t ao:=by cases d with|none=>simp[aJ]|some d=>simp only[aJ,Option.some.injEq];by_cases h:d=t;(.simp_all);simp_all
def xv.put{a:Act}(h:xv ops s a)(hi:ops[y]?=E F)(v:O):xv ops s<|a.put F.dst v:=by
 refine⟨?_,?_,λt b=>?_⟩;.rw[<-h.size];cases hd:F.dst<;>simp[aJ]
 .rw[<-h.defers];cases hd:F.dst<;>simp[aJ]
 .rw[BV,if_neg,h.out t b];grind
def Listed(a:Array Bool)(k:Nat):Prop:=a[k]?=E U
def WH{k:Nat}(h:q.getD k V=U):Listed q k:=by rw[bh]at h;cases e:q[k]? with|none=>grind|some b=>rw[e]at h;simp at h;rw[Listed,e,h]
def QM{k:Nat}(h:q.getD k U=V):q[k]?=E V:=by rw[bh]at h;grind
def Ur(h:v∈aA md ops q):v<ops.size/\q.getD v U=V/\∀o,ops[v]?=E o->∀e∈o.after,aK md e=U->Listed q e.on:=by
 simp only[aA,bQ,bj,aQ,aX]at h;refine⟨h.1,h.2.1,λo d e c f=>?_⟩;have a:=h.2.2;rw[d]at a;simp only[bR,bT,bl,bm,aX]at a;rcases a e c with b|b;.grind
 .exact WH b
def leftOf(a:Array Bool):Nat:=a.toList.countP λb=>!b
def UE(hi:v<q.size)(h:q.getD v U=V):leftOf (q.setIfInBounds v U)+1=leftOf q:=by
 have a:q[v]=V:=by simp_all
 unfold leftOf;grind
def acX(hs:q.size=ops.size)(h:leftOf q=0):aA md ops q=[]:=by
 unfold aA;rw[List.filter_eq_nil_iff];intro i hi;rw[bj]at hi;have b:i<q.size:=by omega
 have:q[i]=U:=by cases a:q[i]with|true=>rfl|false=>(have:0<leftOf q:=by unfold leftOf;rw[List.countP_pos_iff];exact⟨V,by rw[<-a];simp,rfl⟩);omega
 simp_all
def zm(ops:Array an):Bool:=ops.toList.all (λo=>o.guard.isNone)&&(ops.toList.filterMap (·.dst)).Nodup&&ops.toList.zipIdx.all (λx=>x.1.after.all λe=>!aK .any e||e.on<x.2)
def adb(h:zm ops=U):∀(i:Nat)o,ops[i]?=E o->o.guard=G:=by intro i o a;simp only[zm,aQ,bU]at h;have:=h.1.1 o (by grind);simpa using this
def ID{f:n->Option p}:∀{l:List n},(l.filterMap f).Nodup->∀(i j:Nat)(b:p),(l[i]?).bind f=E b->(l[j]?).bind f=E b->i=j|[],_,i,j,b,hi,_=>by simp at hi|x::l,a,i,j,b,hi,d=>by cases e:f x with|none=>rw[List.filterMap_cons_none e]at a;(cases i with|zero=>simp[e]at hi|succ i=>cases j with|zero=>simp[e]at d|succ j=>simp at hi d;rw[ID a i j b hi d])|some c=>rw[List.filterMap_cons_some e,List.nodup_cons]at a;(have h:∀k,(l[k]?).bind f=E c->False:=λk hk=>by obtain⟨y,m,g⟩:=Option.bind_eq_some_iff.1 hk;exact a.1<|List.mem_filterMap.2 ⟨y,bV m,g⟩);cases i with|zero=>grind|succ i=>cases j with|zero=>grind|succ j=>simp at hi d;rw[ID a.2 i j b hi d]
def Zz(h:zm ops=U):∀(i j:Nat)d,(ops[i]?).bind (·.dst)=E d->(ops[j]?).bind (·.dst)=E d->i=j:=by intro i j d hi a;simp only[zm,aQ,decide_eq_true_eq]at h;exact ID h.1.2 i j d (by simpa using hi)<|by simpa using a
def abN(h:zm ops=U):∀a:Array Bool,a.size=ops.size->aA .any ops a=[]->∀k,k<ops.size->Listed a k:=by intro a hs i k;induction k using Nat.strongRecOn with|_ k f=>intro hk;(have c:k<a.size:=by omega);cases d:a[k]with|true=>rw[Listed,bX c,d]|false=>exfalso;(have:k∈aA .any ops a:=by simp only[aA,bQ,bj];refine⟨hk,?_⟩;simp only[bX hk,bR,bT,aQ,bl,bm,aX];refine⟨by simp_all,λe g=>?_⟩;simp only[zm,aQ,bU,bl,bm,aX,decide_eq_true_eq]at h;rcases h.2 (ops[k],k) (by grind) e g with b|b;(.exact .inl b);.refine .inr ?_;have:=f e.on b (by simp at b;omega);rw[bh,this];rfl);grind
end
section
variable{P:aF}{ops:Array an}{Q:Exit->Act->J->Prop}
def j7{a:Act}{w:J}{K:Act->J->Prop}(h:(execOp a.eval F).run P w=.ok (.value j) g)(b:K (a.put F.dst j) g):F.wp P a w K Q:=by unfold Oper.wp;rw[h];exact b
def QG{a:Act}{w:J}{K:Act->J->Prop}(h:(execOp a.eval F).run P w=.ok .skip g)(b:K (a.put F.dst ao) g):F.wp P a w K Q:=by unfold Oper.wp;rw[h];exact b
def Ck{a:Act}{w:J}{f:FuncId}{K:Act->J->Prop}{R:Ending->J->Prop}(h:(execOp a.eval F).run P w=.ok (.enter f C) g)(c:N P f C g R)(d:∀r b,R r b->∃v,r=W v/\K (a.put F.dst v) b):F.wp P a w K Q:=by unfold Oper.wp;rw[h];refine Calls.mono c ?_;grind
def patch(b:Act)(a:List Nat)(f:Nat->O):Act:=a.foldl (λacc d=>acc.put (E d)<|f d) b
def Oc(f:Nat->O):∀(b:List Nat)(a:Act),(patch a b f).tmps.size=a.tmps.size/\(patch a b f).defers=a.defers|[],a=>⟨rfl,rfl⟩|d::b,a=>by have h:=Oc f b<|a.put (E d)<|f d;have e:patch a (d::b) f=patch (a.put (E d)<|f d) b f:=rfl;rw[e];exact⟨by rw[h.1];simp[aJ],by rw[h.2];simp[aJ]⟩
def ME(f:Nat->O)(t:Nat):∀(a:List Nat)(b:Act),t<b.tmps.size->(patch b a f).tmps.getD t ao=if t∈a then f t else b.tmps.getD t ao|[],b,_=>by simp[patch]|d::a,b,c=>by have e:patch b (d::a) f=patch (b.put (E d)<|f d) a f:=rfl;rw[e,ME f t a _<|by simpa[aJ]using c];by_cases h:t∈a;(.simp[h]);.rw[if_neg h,BV];grind
def afy{a:Act}(c:List Nat)(h:xv ops s a)(hd:∀t,t∉c->∀j:Nat,(ops[j]?).bind (·.dst)≠E t):a=patch s c (λd=>a.tmps.getD d ao):=by
 obtain⟨b,n⟩:=a;have l:=h.size;have o:=h.defers;have g:=Oc (λd=>b.getD d ao) c s;have k:=ME λd=>b.getD d ao;generalize m:patch s c (λd=>b.getD d ao)=p at*;obtain⟨tp,dp⟩:=p;simp only at*;have q:b=tp:=by apply Array.ext;(.rw[l,g.1]);.intro i hi e;(have e1:b[i]=b.getD i ao:=by simp_all);(have e2:tp[i]=tp.getD i ao:=by simp[Array.getD,e]);rw[e1,e2];have:=k i c s (by omega);rw[m]at this;simp only at this;rw[this];by_cases f:i∈c;(.rw[if_pos f]);.rw[if_neg f];exact h.out i<|hd i f
 grind
def tX{t:Nat}(h:(ops.toList.all λo=>o.dst !=E t)=U):∀j:Nat,(ops[j]?).bind (·.dst)≠E t:=by grind
def VE{a:List Nat}(h:(ops.toList.all λo=>match o.dst with|E d=>a.contains d|G=>U)=U):∀t,t∉a->∀j:Nat,(ops[j]?).bind (·.dst)≠E t:=by grind
end
section
variable{P:aF}{ops:Array an}{Q:Exit->Act->J->Prop}{md:bP}
def J8(y:Act)(F:J->Prop)(R:Nat->(Nat->O)->J->Prop)(f:∀(i:Nat)o,ops[i]?=E o->o.guard=G)(x:∀(i j:Nat)d,(ops[i]?).bind (·.dst)=E d->(ops[j]?).bind (·.dst)=E d->i=j)(hloc:∀k s s' w,(∀o,ops[k]?=E o->∀j,(j=k\/∃e∈o.after,aK md e=U/\e.on=j)->s j=s' j)->R k s w->R k s' w)(hob:∀(i:Nat)o,ops[i]?=E o->∀a w,F w->xv ops y a->(∀e∈o.after,aK md e=U->R e.on (vu ops a) w)->o.wp P a w (λT t=>F t/\(∀k s,k≠i->R k s w->R k s t)/\∃v,T=a.put o.dst v/\R i (vu ops T) t) Q)(c:∀b:Array Bool,b.size=ops.size->aA md ops b=[]->∀k,k<ops.size->Listed b k)(hend:∀a w,F w->xv ops y a->(∀k,k<ops.size->R k (vu ops a) w)->Q .normal a w):∀(g:Nat)(b:Array Bool)(a:Act)(w:J),b.size=ops.size->leftOf b<=g->F w->xv ops y a->(∀k,Listed b k->R k (vu ops a) w)->(∀k o,ops[k]?=E o->Listed b k->∀e∈o.after,aK md e=U->Listed b e.on)->wpAny P md ops Q g b a w|0,b,a,w,hs,hl,hF,m,A,_=>by have z:aA md ops b=[]:=acX hs (by omega);exact⟨z,hend a w hF m λk hk=>A k (c b hs z k hk)⟩|g+1,b,a,w,hs,hl,hF,m,A,hD=>by refine⟨λz=>hend a w hF m λk hk=>A k (c b hs z k hk),λi hi=>?_⟩;obtain⟨M,r,q⟩:=Ur hi;(have u:ops[i]?=E ops[i]:=by simp[M]);(have l:i<b.size:=by omega);(have aa:¬Listed b i:=by intro p;have:=QM r;rw[Listed,this]at p;cases p);unfold wpOp;rw[u];simp only[];rw[if_pos<|by simp[Region.wanted,f i _ u]];refine Or.inl<|Oper.wp_mono ?_<|hob i _ u a w hF m λe he hb=>A _<|q _ u e he hb;rintro T t⟨K,C,v,rfl,ac⟩;(have n:∀k,Listed (b.setIfInBounds i U) k->k=i\/Listed b k:=by intro k hk;by_cases e:k=i;(.exact .inl e);.refine .inr ?_;rw[Listed,bn,if_neg λh=>e h.symm]at hk;exact hk);(have S:∀k,Listed b k->Listed (b.setIfInBounds i U) k:=by intro k hk;rw[Listed,bn];by_cases h1:i=k;(.grind);.rw[if_neg h1];exact hk);(have D:Listed (b.setIfInBounds i U) i:=by rw[Listed,bn,if_pos rfl,if_pos l]);(have B:∀k,Listed b k->vu ops (a.put ops[i].dst v) k=vu ops a k:=by intro k hk;unfold vu;cases hd:(ops[k]?).bind (·.dst)with|none=>rfl|some d=>simp only[];rw[BV,if_neg];grind);refine J8 y F R f x hloc hob c hend g _ _ t (by simpa using hs) ?_ K (m.put u v) ?_ ?_;(.have:=UE l r;omega);(.grind);grind
def Hx{id:Nat}{w:J}(c:Act)(m:P.follows .mixedOrders=U)(d:zm ops=U)(F:J->Prop)(R:Nat->(Nat->O)->J->Prop)(hloc:∀k s h w,(∀o,ops[k]?=E o->∀j,(j=k\/∃e∈o.after,aK .any e=U/\e.on=j)->s j=h j)->R k s w->R k h w)(hF:F w.drew)(hob:∀(i:Nat)o,ops[i]?=E o->∀a w,F w->xv ops c a->(∀e∈o.after,aK .any e=U->R e.on (vu ops a) w)->o.wp P a w (λg f=>F f/\(∀k s,k≠i->R k s w->R k s f)/\∃v,g=a.put o.dst v/\R i (vu ops g) f) Q)(hend:∀a w,F w->xv ops c a->(∀k,k<ops.size->R k (vu ops a) w)->Q .normal a w):(Code.region id ops U).wp P Q c w:=by
 refine wp_region_any m ?_;refine J8 c F R (adb d) (Zz d) hloc hob (abN d) hend _ _ _ _ (by simp) ?_ hF ⟨rfl,rfl,λ_ _=>rfl⟩ (λk hk=>?_) λk o _ hk=>?_;.unfold leftOf;have:=List.countP_le_length (p:=λb=>!b) (l:=(Array.replicate ops.size V).toList);simpa using this
 .simp[Listed,bY]at hk
 .simp[Listed,bY]at hk
end
def iJ(w:J)(g:Nat)(T:aE)(m:Nat)(c:Nat->O):Prop:=∃a:Array O,w.heap[g]?=E (ae a T (0,0))/\a.size=m/\∀j,j<m->a[j]?=E (c j)
def iJ.lt{w:J}{g m:Nat}{c:Nat->O}(h:iJ w g v m c):g<w.heap.size:=by obtain⟨a,b,_⟩:=h;grind
def iJ.cell{w:J}{g m:Nat}{c:Nat->O}(h:iJ w g v m c){j:Nat}(d:j<m):w.cell? ⟨g,j,G⟩=E (c j):=by obtain⟨a,e,_,b⟩:=h;simp[cg,e,b j d]
def iJ.frozen{w:J}{g m:Nat}{c:Nat->O}(h:iJ w g v m c)(j:Nat):w.frozen? ⟨g,j,G⟩=V:=by obtain⟨a,b,_⟩:=h;simp[World.frozen?,b]
def iJ.block{w:J}{g m:Nat}{c:Nat->O}(h:iJ w g v m c)(e:i.heap[g]?=w.heap[g]?):iJ i g v m c:=by obtain⟨a,d,b⟩:=h;exact⟨a,by rw[e];exact d,b⟩
def iJ.below{w:J}{g m:Nat}{c:Nat->O}(h:iJ w g v m c)(a:L w.heap.size w i):iJ i g v m c:=h.block<|a.block g h.lt
def iJ.congr{w:J}{g m:Nat}{c b:Nat->O}(h:iJ w g v m c)(f:∀j,j<m->c j=b j):iJ w g v m b:=by obtain⟨a,d,e,k⟩:=h;exact⟨a,d,e,λj i=>by grind⟩
def iJ.Yq{w:J}{g m:Nat}{c:Nat->O}(h:iJ w g v m c)(a:m=y):iJ w g v y c:=a▸h
def iJ.nQ{w:J}{g m:Nat}{c:Nat->O}(h:iJ w g v m c){a:Addr}(b:g≠a.block)(u:O):iJ (w.setCell a u) g v m c:=h.block<|cj _ _ _ _ b
def iJ.setCell{w:J}{g m:Nat}{c:Nat->O}(h:iJ w g v m c)(i:Nat)(u:O):iJ (w.setCell ⟨g,i,G⟩ u) g v m λj=>if j=i then u else c j:=by
 obtain⟨a,d,b,f⟩:=h;refine⟨a.setIfInBounds i u,?_,by simpa using b,λj e=>?_⟩;.simp[World.setCell,Array.getElem?_modify,d]
 grind
def iJ.alloc{w:J}{g m:Nat}{c:Nat->O}(h:iJ w g v m c)(o:Obj):iJ (w.alloc o) g v m c:=h.block<|ck _ _ _ h.lt
def Ll(w:J)(a:Array O)(T:aE)(c:Nat->O)(h:∀j,j<a.size->a[j]?=E (c j)):iJ (w.alloc<|ae a T) w.heap.size T a.size c:=⟨a,heap_alloc_new w _,rfl,h⟩
def iJ.apart{w:J}{g m:Nat}{c j:Nat->O}(h:iJ w g y m c)(k:iJ w v b d j)(l:y≠b):g≠v:=by intro e;subst e;obtain⟨f,n,_⟩:=h;obtain⟨a,i,_⟩:=k;grind
def lc(a:List O)(j:Nat):O:=a.getD j ao
def km(w:J)(a:List O)(T:aE):iJ (w.alloc<|ae a.toArray T) w.heap.size T a.length<|lc a:=by have:=Ll w a.toArray T (lc a) (λj b=>by simp at b;simp[lc,bq,b]);simpa using this
def iJ.LU{w:J}{g:Nat}{xs:List O}(h:iJ w g v xs.length<|lc xs)(i:Nat)(u:O):iJ (w.setCell ⟨g,i,G⟩ u) g v (xs.set i u).length<|lc<|xs.set i u:=by
 refine((h.setCell i u).Yq<|by simp).congr λj a=>?_;simp at a;by_cases e:j=i;.subst e;simp[lc,bq,a]
 .simp only[lc,bq,if_neg e];grind
def xm(f:Nat->Int)(j:Nat):O:=I H<|f j
def nT(b off j:Nat):(⟨b,off,G⟩:Addr).add j=⟨b,off+j,G⟩:=by unfold Addr.add;simp
section
variable{P:aF}{w:J}{ops:Array an}{rest:List an}{o:an}{a:Act}{Q:Exit->Act->J->Prop}
def EM(t e:aE)(z:O)(size bytes:Nat)(q:P.underlying t=E (.slice e))(b:(P.info? e).map (λi=>(i.zero,i.size,i.bytes))=E (E z,size,bytes))(n:Nat)(b2:bytes*n<=281474976710656)(b3:n<=maxLen)(f:Nat->O)(p:∀j,j<n*size->z.cells[j%z.cells.size]! =f j):∃M:Array O,(∀w:J,(Instr.makeSlice t (I H (n:Int))<|I H (n:Int)).run P w=.ok (Z (E ⟨w.heap.size,0,G⟩) n n) (w.alloc<|ae M e))/\∀w:J,iJ (w.alloc<|ae M e) w.heap.size e (n*size) f:=by
 obtain⟨i,hi,g,c,m⟩:=info_parts b;have k:(i.bytes)*(n:Int)<=281474976710656:=by grind
 have d:(n:Int)<=9223372036854775807:=by unfold maxLen at b3;omega
 refine⟨madeCells z.cells<|n*i.size,λw=>?_,λw=>?_⟩;.have l:=run_make w t e i z q hi g H H n n (by omega) (by omega) k d;grind
 . (have hs:(madeCells z.cells<|n*i.size).size=n*size:=by rw[size_madeCells,c]);have:=Ll w (madeCells z.cells<|n*i.size) e f (λj h=>by rw[hs]at h;rw[<-p j h,madeCells,Array.getElem?_map];simp[c,h]);grind
end
def xc(j:Nat):O:=if j%6<2 then ai V else I H 0
def EF(e:Nat)(D:iT)(f d:O)(p:Int)(w:J)(h:mn w e D f d):N X 42 #[Y<|E ⟨e,0,G⟩,I H p] w λe c=>e=W (ai<|iX p 0<|D.nl-1)/\c=w:=by
 obtain⟨a,cap,rfl,j,i⟩:=id h.l;have g:=h.c4;by_cases b:0<=p;.go_enter cx,cz;go_wp2_with fail;go_ret;refine⟨jd ?_,rfl⟩;rw[iX,decide_eq_true b,bM,decide_eq_decide];omega
 . (have hd:decide (0<=p)=V:=by simpa using b);go_enter cx,cz;go_wp2_with fail;go_ret;exact⟨jd<|by simp[iX,hd],rfl⟩
def DS(e:Nat)(D:iT)(b a:O)(p q:Int)(w:J)(h:mn w e D b a):N X 40 #[Y<|E ⟨e,0,G⟩,I H p,I H q] w λe c=>e=W (ai<|uf D.nb p q)/\c=w:=by cases q1:iX p 0 D.nb with|false=>go_enter bu,bw;go_wp2_with(go_at_call 38;refine(BE _ D b a _ _ h).to ?_);go_ret;exact⟨jd<|by simp[uf,q1],rfl⟩|true=>cases q2:iX q 0 D.nb with|false=>go_enter bu,bw;go_wp2_with(go_at_call 38;refine(BE _ D b a _ _ h).to ?_);go_ret;exact⟨jd<|by simp[uf,q2],rfl⟩|true=>go_enter bu,bw;go_wp2_with(go_at_call 38;refine(BE _ D b a _ _ h).to ?_);go_ret;refine⟨jd ?_,rfl⟩;simp[uf,q1,q2,bne]
structure iD(S:Nat->Prop)(w w':J):Prop where
 size:w.heap.size<=w'.heap.size
 block:∀b,S b->b<w.heap.size->w'.heap[b]?=w.heap[b]?
def iD.refl(S:Nat->Prop)(w:J):iD S w w:=⟨aj _,λ_ _ _=>rfl⟩
def iD.trans{S:Nat->Prop}{w:J}(h:iD S w g)(c:iD S g i):iD S w i:=⟨Nat.le_trans h.size c.size,λb hs a=>(c.block b hs<|aD a h.size).trans<|h.block b hs a⟩
def iD.jF{S:Nat->Prop}{w:J}(h:L w.heap.size w g):iD S w g:=⟨h.size,λb _ a=>h.block b a⟩
def iD.mono{S S':Nat->Prop}{w:J}(h:iD S w g)(hs:∀b,S' b->S b):iD S' w g:=⟨h.size,λb c a=>h.block b (hs b c) a⟩
def iD.alloc{S:Nat->Prop}{w:J}(h:iD S w g)(o:Obj):iD S w<|g.alloc o:=h.trans ⟨by simp,λb _ a=>ck _ _ _ a⟩
def iD.setCell{S:Nat->Prop}{w:J}(h:iD S w g){a:Addr}(c:¬S a.block)(u:O):iD S w<|g.setCell a u:=h.trans ⟨by simp,λb hs _=>cj _ _ _ _ λe=>c<|e▸hs⟩
def iD.cell{S:Nat->Prop}{w:J}(h:iD S w g){b:Nat}(hs:S b)(a:b<w.heap.size)(o:Nat):g.cell? ⟨b,o,G⟩=w.cell? ⟨b,o,G⟩:=World.cell?_of_block<|h.block b hs a
def mU(S:Nat->Prop)(w:J)(v:O)(k n:Nat)(f:Nat->Int):Prop:=∃a cap,v=Z a n cap/\n<=1048577/\(0<n->∃b off,a=E ⟨b,off,G⟩/\S b/\b<w.heap.size/\∀j,j<n*k->w.cell? ⟨b,off+j,G⟩=E (I H<|f j))
def mU.rd{S:Nat->Prop}{w:J}{k n:Nat}{f:Nat->Int}(h:mU S w j k n f):iQ w j k n f:=by obtain⟨a,cap,rfl,b,d⟩:=h;refine⟨a,cap,rfl,b,λc=>?_⟩;grind
def mU.iR{S:Nat->Prop}{w w':J}{k n:Nat}{f:Nat->Int}(h:mU S w j k n f)(hk:iD S w w'):mU S w' j k n f:=by obtain⟨a,cap,rfl,g,l⟩:=h;refine⟨a,cap,rfl,g,λi=>?_⟩;obtain⟨b,off,rfl,hs,d,c⟩:=l i;exact⟨b,off,rfl,hs,aD d hk.size,λe m=>by rw[hk.cell hs d];exact c e m⟩
def mU.mono{S S':Nat->Prop}{w:J}{k n:Nat}{f:Nat->Int}(h:mU S w j k n f)(hs:∀b,S b->S' b):mU S' w j k n f:=by obtain⟨a,cap,rfl,c,e⟩:=h;refine⟨a,cap,rfl,c,λd=>?_⟩;grind
def mU.lt{S:Nat->Prop}{w:J}{k n:Nat}{f:Nat->Int}(h:mU S w j k n f):mU (λb=>S b/\b<w.heap.size) w j k n f:=by obtain⟨a,cap,rfl,c,e⟩:=h;refine⟨a,cap,rfl,c,λd=>?_⟩;grind
def iQ.all{w:J}{k n:Nat}{f:Nat->Int}(h:iQ w j k n f):mU (λb=>b<w.heap.size) w j k n f:=by obtain⟨a,cap,rfl,c,e⟩:=h;refine⟨a,cap,rfl,c,λd=>?_⟩;grind
structure sE(S:Nat->Prop)(w:J)(a b c d:O)(t:iP):Prop where
 r:mU S w a 1 t.nr t.r
 wr:mU S w b 1 t.nw t.wr
 g:mU S w c 2 t.ng t.g
 c:mU S w d 4 t.nc t.c
def sE.rd{S:Nat->Prop}{w:J}{a b c d:O}{t:iP}(h:sE S w a b c d t):lE w a b c d t:=⟨h.r.rd,h.wr.rd,h.g.rd,h.c.rd⟩
def sE.iR{S:Nat->Prop}{w w':J}{a b c d:O}{t:iP}(h:sE S w a b c d t)(hk:iD S w w'):sE S w' a b c d t:=⟨h.r.iR hk,h.wr.iR hk,h.g.iR hk,h.c.iR hk⟩
def sE.mono{S S':Nat->Prop}{w:J}{a b c d:O}{t:iP}(h:sE S w a b c d t)(hs:∀b,S b->S' b):sE S' w a b c d t:=⟨h.r.mono hs,h.wr.mono hs,h.g.mono hs,h.c.mono hs⟩
def lE.all{w:J}{a b c d:O}{t:iP}(h:lE w a b c d t):sE (λb=>b<w.heap.size) w a b c d t:=⟨h.r.all,h.wr.all,h.g.all,h.c.all⟩
def qs(S:Nat->Prop)(w:J)(v:O)(n:Nat)(ts:Nat->iP):Prop:=∃a cap,v=Z a n cap/\n<=1048577/\(0<n->∃b off,a=E ⟨b,off,G⟩/\S b/\b<w.heap.size/\∃c:Nat->O,(∀j,j<n*4->w.cell? ⟨b,off+j,G⟩=E (c j))/\∀i,i<n->sE S w (c<|i*4) (c<|i*4+1) (c<|i*4+2) (c<|i*4+3) (ts i))
def qs.rd{S:Nat->Prop}{w:J}{n:Nat}{ts:Nat->iP}(h:qs S w j n ts):lI w j n ts:=by obtain⟨a,cap,rfl,e,l⟩:=h;refine⟨a,cap,rfl,e,λk=>?_⟩;obtain⟨b,off,rfl,_,d,g,c,f⟩:=l k;exact⟨b,off,rfl,d,g,c,λi hi=>(f i hi).rd⟩
def qs.iR{S:Nat->Prop}{w w':J}{n:Nat}{ts:Nat->iP}(h:qs S w j n ts)(hk:iD S w w'):qs S w' j n ts:=by obtain⟨a,cap,rfl,f,m⟩:=h;refine⟨a,cap,rfl,f,λl=>?_⟩;obtain⟨b,off,rfl,hs,d,k,c,g⟩:=m l;exact⟨b,off,rfl,hs,aD d hk.size,k,λe o=>by rw[hk.cell hs d];exact c e o,λi hi=>(g i hi).iR hk⟩
def qs.mono{S S':Nat->Prop}{w:J}{n:Nat}{ts:Nat->iP}(h:qs S w j n ts)(hs:∀b,S b->S' b):qs S' w j n ts:=by obtain⟨a,cap,rfl,f,m⟩:=h;refine⟨a,cap,rfl,f,λl=>?_⟩;obtain⟨b,off,rfl,e,d,k,c,g⟩:=m l;exact⟨b,off,rfl,hs b e,d,k,c,λi hi=>(g i hi).mono hs⟩
def sE.lt{S:Nat->Prop}{w:J}{a b c d:O}{t:iP}(h:sE S w a b c d t):sE (λb=>S b/\b<w.heap.size) w a b c d t:=⟨h.r.lt,h.wr.lt,h.g.lt,h.c.lt⟩
def qs.lt{S:Nat->Prop}{w:J}{n:Nat}{ts:Nat->iP}(h:qs S w j n ts):qs (λb=>S b/\b<w.heap.size) w j n ts:=by obtain⟨a,cap,rfl,f,m⟩:=h;refine⟨a,cap,rfl,f,λl=>?_⟩;obtain⟨b,off,rfl,e,d,k,c,g⟩:=m l;exact⟨b,off,rfl,⟨e,d⟩,d,k,c,λi hi=>(g i hi).lt⟩
def Hv{w:J}{base e k n:Nat}{f:Nat->Int}(h:w.ownsRow base e k j n r)(l:n<=1048577)(p:∀a,a<n*k->r[a]?=E (I H<|f a)):mU (λb=>base<=b) w j k n f:=by
 obtain⟨x,s⟩:=h;rcases s with⟨rfl,rfl⟩|⟨g,cap,t,rfl,o,c,q,y,hs,m⟩;.exact⟨_,_,rfl,by omega,λu=>by omega⟩
 .refine⟨_,_,rfl,l,λ_=>⟨g,0,rfl,o,(bz.1 c).1,λa i=>?_⟩⟩;have d:=p a i;rw[<-m,List.getElem?_take,if_pos i,Array.getElem?_toList]at d;simp[cg,c,d]
end
section
open Go.RowKit Go.Maps
def Tryz.Wo:(Tryz.prog.info? 3).map (λi=>(i.zero,i.size,i.bytes))=E (E<|I H 0,1,8):=by kernel_rfl
def Tryz.Tx:(Tryz.prog.info? 159).map (λi=>(i.zero,i.size,i.bytes))=E (E<|aq #[I H 0,I H 0],2,16):=by kernel_rfl
def Tryz.UH:(Tryz.prog.info? 161).map (λi=>(i.zero,i.size,i.bytes))=E (E<|aq #[I H 0,I H 0,I H 0,I H 0],4,32):=by kernel_rfl
def Tryz.Wr:(Tryz.prog.info? 91).map (λi=>(i.zero,i.size,i.bytes))=E (E<|aq #[Z G 0 0,Z G 0 0,Z G 0 0,Z G 0 0],4,96):=by kernel_rfl
def lF(n:Nat)(w:J)(b:Nat)(hs:Nat->Bool)(vl:Nat->Int):Prop:=∃a:DataW Unit,w.ownsMap X 3 (plainElem X 3) b n a/\GZ a hs vl
def lF.block{n:Nat}{w:J}{b:Nat}{hs:Nat->Bool}{vl:Nat->Int}(h:lF n w b hs vl)(i:g.heap[b]?=w.heap[b]?):lF n g b hs vl:=by obtain⟨c,⟨e,a,f,d⟩,hd⟩:=h;exact⟨c,⟨e,a,by rw[i];exact f,d⟩,hd⟩
def lF.step{n:Nat}{w:J}{b:Nat}{hs:Nat->Bool}{vl:Nat->Int}(h:lF n w b hs vl):lF (n+1) w b hs vl:=by obtain⟨c,a,hd⟩:=h;exact⟨c,a.mono<|by omega,hd⟩
def lF.congr{n:Nat}{w:J}{b:Nat}{hs a:Nat->Bool}{vl c:Nat->Int}(h:lF n w b hs vl)(e1:∀k,k<100->hs k=a k)(e2:∀k,k<100->hs k=U->vl k=c k):lF n w b a c:=by obtain⟨f,g,hd⟩:=h;refine⟨f,g,λk hk=>?_⟩;obtain⟨d,e⟩:=hd k hk;exact⟨d.trans<|e1 k hk,λh=>by rw[<-e2 k hk<|(e1 k hk).trans h];exact e<|(e1 k hk).trans h⟩
def K8(w:J):lF 0 (w.alloc<|.map #[] 0) w.heap.size (λ_=>V) λ_=>0:=⟨.map [],World.ownsMap_made _ _ _ _,λk _=>⟨rfl,λh=>by cases h⟩⟩
def abo(w:J):N X 83 #[] w λe a=>∃m,e=W (aq #[.map<|E m])/\w.heap.size<=m/\m<a.heap.size/\lF 0 a m (λ_=>V) (λ_=>0)/\L w.heap.size w a:=by
 have b:=@run_makeMap X;go_enter Tryz.func83,Tryz.ntmps83;go_wp2_with fail;refine bodyPost_ret (v:=aq #[.map<|E<|w.heap.size+1]) (by simp[results,Tryz.results83,go_sem]) rfl ⟨_,rfl,by omega,by simp,?_,?_⟩;.have:=K8<|w.alloc<|ae #[.map<|E<|w.heap.size+1] 121;simpa using this
 .exact((ah _ _).alloc (aj _) _).alloc (by simp) _
def WE(e:Nat)(D:iT)(c d:O)(k:Int)(w:J)(h:mn w e D c d):N X 84 #[Y<|E ⟨e,0,G⟩,I H k] w λr g=>r=W (aq #[Y<|E ⟨e,0,G⟩,I H k,I H (yD D k:Nat),Z G 0 0])/\L w.heap.size w g:=by have a:L w.heap.size w<|w.alloc<|ae #[Y G,I H 0,I H 0,Z G 0 0] 125:=(ah _ _).alloc (aj _) _;go_enter Tryz.func84,Tryz.ntmps84;go_wp2_with fail;refine(UK _ D c d k _<|h.below a).mono ?_;rintro r w1⟨rfl,b⟩;have r1:=(km w [Y G,I H 0,I H 0,Z G 0 0] 125).below b;have d0:=r1.cell (j:=0) (by simp);have d1:=r1.cell (j:=1) (by simp);have d2:=r1.cell (j:=2) (by simp);have d3:=r1.cell (j:=3) (by simp);have l:=r1.frozen;have b1:=a.trans<|b.mono (by simp);generalize f:((yD D k))=N at*;have i:Hid<|_=_:=f;go_wp2_with fail;refine bodyPost_ret (v:=aq #[Y<|E ⟨e,0,G⟩,I H k,I H N,Z G 0 0]) (by simp[results,Tryz.results84,go_sem,d0,d1,d2,d3]) rfl ⟨by rw[<-i.out],?_⟩;exact(((b1.setCell (aj _) _).setCell (aj _) _).setCell (aj _) _).setCell (aj _) _
def upd(f:Nat->n)(k:Nat)(x:n)(j:Nat):n:=if j=k then x else f j
def upd_same(f:Nat->n)(k:Nat)(x:n):upd f k x k=x:=if_pos rfl
def jq(f:Nat->n){k:Nat}(x:n)(h:v≠k):upd f k x v=f v:=if_neg h
def TE(K off b:Nat)(hs:Nat->Bool)(vl:Nat->Int)(k:Nat)(x:Int)(w:J)(hk:k<100)(l:(Lit.int H x).wf=U)(n:Nat)(q:n<=40)(s:w.cell? ⟨K,off,G⟩=E (.map<|E b))(o:lF n w b hs vl):N X 85 #[Y<|E ⟨K,off,G⟩,I H k,I H x] w λe i=>e=W (.tuple #[])/\lF (n+1) i b (upd hs k U) (upd vl k x)/\w.grownBy i (E b):=by
 obtain⟨r,a,p⟩:=o;have f:=keyOf_int_mk aW<|xp hk;go_enter Tryz.func85,Tryz.ntmps85;go_wp2_with(at_mapUpdate;refine wpList_mapUpdate_own _ rfl _ _ _ 119 rfl 3 3 vV Tryz.underlying119 _ b n _ rfl a (by unfold maxLen;omega) _ _ _ rfl rfl f _ [] (plainElem_int aW l) ?_;intro w1 d c);go_end0;refine⟨rfl,⟨_,d,λj m=>?_⟩,c⟩;by_cases e:j=k;.subst e;rw[upd_same,upd_same];exact⟨has_put_same a.isMap (by simp[WideAt.IsKeyLit]) _,λ_=>atKey_put_same a.isMap (by simp[WideAt.IsKeyLit]) _ _⟩
 . (have g:(Lit.int H<|j)≠.int H (k):=by intro h;injection h with _ h;exact e (by omega));rw[jq _ _ e,jq _ _ e,has_put_other g,atKey_put_other g];exact p j m
def vw(w:J)(b:Nat):Prop:=∃x t fr,w.heap[b]?=E (ae x t fr)
def qL(w:J)(v:O)(d n:Nat)(c:List O):Prop:=∃a cap,v=Z a n cap/\c.length=n*d/\(∀u∈c,u.oneCell'=U)/\((a=G->n=0/\cap=0)/\∀b,a=E b->vw w b.block)/\∀b,a=E b->(n≠0->b.spot=G/\b.block<w.heap.size)/\∀j u,c[j]?=E u->w.cell? (b.add j)=E u
def qL.below{w:J}{n:Nat}(h:qL w j v n r)(d:L w.heap.size w g):qL g j v n r:=by obtain⟨a,cap,rfl,m,o,k,c⟩:=h;refine⟨a,cap,rfl,m,o,⟨k.1,λb e=>by obtain⟨x,t,fr,f⟩:=k.2 b e;exact⟨x,t,fr,by rw[d.block _ (bz.1 f).1];exact f⟩⟩,λb e=>⟨λi=>⟨((c b e).1 i).1,aD ((c b e).1 i).2 d.size⟩,λl u p=>?_⟩⟩;have:=(c b e).2 l u p;rw[<-this];exact d.cell<|az _ _ this
def Ft{w:J}{base:Nat}{e:aE}{n:Nat}(h:w.ownsRow base e v j n r)(b:∀u∈r,u.oneCell'=U):qL w j v n r:=by
 rcases h.2 with⟨rfl,rfl⟩|⟨g,cap,d,rfl,_,c,_⟩;.exact⟨G,0,rfl,h.1,b,⟨λ_=>⟨rfl,rfl⟩,λa e=>by cases e⟩,λa e=>by cases e⟩
 .refine⟨E ⟨g,0,G⟩,cap,rfl,h.1,b,⟨λe=>(by cases e),λa e=>by cases e;exact⟨_,_,_,c⟩⟩,λa e=>?_⟩;cases e;exact⟨λ_=>⟨rfl,(bz.1 c).1⟩,h.cells rfl⟩
def aay(w:J)(a:Nat):qL w (Z G 0 0) a 0 []:=⟨G,0,rfl,by simp,by simp,⟨λ_=>⟨rfl,rfl⟩,λb e=>by cases e⟩,λb e=>by cases e⟩
def mL:List (Nat×Int)->List O|[]=>[]|p::l=>I H p.1::I H p.2::mL l
def FW(l m:List<|Nat×Int):mL (l++m)=mL l++mL m:=by induction l with|nil=>rfl|cons p l a=>simp[mL,a]
def Gw(l:List<|Nat×Int):∀u∈mL l,u.oneCell'=U:=by induction l with|nil=>simp[mL]|cons p l a=>simp only[mL,List.mem_cons];rintro u(rfl|rfl|h)<;>first|rfl|exact a u h
def zL{l:List<|Nat×Int}{k:Nat}{p:Nat×Int}(h:l[k]?=E p):(mL l)[k*2]?=E (I H p.1)/\(mL l)[k*2+1]?=E (I H p.2):=by induction l generalizing k with|nil=>simp at h|cons q l a=>cases k with|zero=>simp at h;subst h;simp[mL]|succ k=>have:=a (by simpa using h);rw[show(k+1)*2=k*2+1+1 by omega,show k*2+1+1+1=k*2+1+1+1 from rfl];exact this
abbrev pA(w:J)(v:O)(l:List<|Nat×Int):Prop:=qL w v 2 l.length<|mL l
structure jw where
 fr:Nat
 iz:Nat
 ps:List<|Nat×Int
inductive sq(w:J):List O->List jw->Prop|nil:sq w [] []|cons{p:jw}{pv:O}{xs:List O}{l:List jw}(h:pA w pv p.ps)(hs:sq w xs l):sq w (I H p.fr::I H p.iz::pv::xs)<|p::l
def sq.low{w:J}{l:List jw}(h:sq w r l)(a:L w.heap.size w g):sq g r l:=by induction h with|nil=>exact .nil|cons h _ b=>exact .cons (h.below a) b
def sq.get{w:J}{l:List jw}(h:sq w r l){k:Nat}{p:jw}(b:l[k]?=E p):∃a,r[k*3]?=E (I H p.fr)/\r[k*3+1]?=E (I H p.iz)/\r[k*3+2]?=E a/\pA w a p.ps:=by induction h generalizing k with|nil=>simp at b|@cons q a r l h hs c=>grind
def uj(w:J)(v:O)(l:List jw):Prop:=∃a,qL w v 3 l.length a/\sq w a l
def uj.below{w:J}{l:List jw}(h:uj w j l)(a:L w.heap.size w g):uj g j l:=by obtain⟨c,d,b⟩:=h;exact⟨c,d.below a,b.low a⟩
def lf(i:Nat)(l:List jw):List<|Nat×Int:=(l.filter λp=>p.iz==i).flatMap (·.ps)
def SG{l:List jw}{k:Nat}{p:jw}(h:l[k]?=E p)(a:(p.iz==v)=U):lf v (l.take<|k+1)=lf v (l.take k)++p.ps:=by rw[cA,h];simp[lf,cD,a]
def Q4{l:List jw}{k:Nat}{p:jw}(h:l[k]?=E p)(a:(p.iz==v)=V):lf v (l.take<|k+1)=lf v (l.take k):=by rw[cA,h];simp[lf,cD,a]
def OE(i:Nat)(l:List jw)(h:∀p∈l,p.ps.length<=100):(lf i l).length<=l.length*100:=by induction l with|nil=>simp[lf]|cons p l a=>have c:=a λq b=>h q (by simp[b]);have d:=h p (by simp);unfold lf at*;grind
def QA(K off i:Nat)(vT:O)(l:List jw)(w:J)(hc:w.cell? ⟨K,off+4,G⟩=E vT)(hT:uj w vT l)(hl:l.length<=200)(P:∀p∈l,p.ps.length<=100):N X 135 #[Y<|E ⟨K,off,G⟩,I H i] w λe w'=>∃v,e=W v/\w'.ownsRow w.heap.size 81 2 v (lf i l).length (mL<|lf i l)/\L w.heap.size w w':=by
 obtain⟨i0,hi,S,aa,ac⟩:=info_parts Tryz.BX;have ao:K<w.heap.size:=az _ _ hc;obtain⟨xs,hV,hP⟩:=hT;obtain⟨a,cap,rfl,al,am,s,x⟩:=id hV;go_enter Tryz.func135,Tryz.ntmps135;go_wp2_with fail;go_loopw[5,13](λv j wr=>∃k:Nat,k<=l.length/\j=I H k/\wr.ownsRow w.heap.size 81 2 v (lf i<|l.take k).length (mL<|lf i<|l.take k)/\L w.heap.size w wr)(λ_ j _=>l.length-(intOf j).toNat);case atStart=>exact⟨0,ak _,rfl,cE _ _ _ _,ah _ _⟩
 case round=>obtain⟨k,hk,rfl,c,f⟩:=hrel;by_cases R:k<l.length;(.obtain⟨p,y⟩:∃p,l[k]?=E p:=⟨l[k],by simp[R]⟩;obtain⟨pv,x0,x1,x2,Q⟩:=(hP.low f).get y;cases a with|none=>exact absurd (s.1 rfl).1 (by omega)|some ad=>obtain⟨h1,h2⟩:=x ad rfl;obtain⟨M,d⟩:=h1 (by omega);obtain⟨b,o,sp⟩:=ad;simp only at M d;subst M;(have y0:wr.cell? ⟨b,o+k*3,G⟩=E (I H p.fr):=by have:=h2 _ _ x0;rw[nT]at this;rw[f.cell d];exact this);(have y1:wr.cell? ⟨b,o+k*3+1,G⟩=E (I H p.iz):=by have:=h2 _ _ x1;rw[nT]at this;rw[f.cell d];exact this);(have y2:wr.cell? ⟨b,o+k*3+2,G⟩=E pv:=by have:=h2 _ _ x2;rw[nT]at this;rw[f.cell d];exact this);have ai:=OE i (l.take k) λp y=>P p<|List.mem_of_mem_take y;rw[List.length_take]at ai;have au:=P p<|bV y;(have aj:(k:Int)<(l.length:Int):=by omega);(have av:(0:Int)<=(k:Int):=by omega);have q:=f.size;obtain⟨pa,m,rfl,A,D,t,n⟩:=Q;cases hq:(p.iz==i)with|false=>have C:Hid<|_=_:=Q4 y hq;(have ar:((p.iz:Int)==(i:Int))=V:=by grind);go_wp2_with fail;go_roundw;(case rel=>exact⟨k+1,by omega,by go_num,by rw[C.out];exact c.alloc _,f.alloc q _⟩);case measure=>simp[intOf];omega|true=>have C:Hid<|_=_:=SG y hq;(have ap:((p.iz:Int)==(i:Int))=U:=by grind);cases pa with|none=>obtain⟨z1,z2⟩:=t.1 rfl;have z:p.ps=[]:=cF z1;rw[z]at C;rw[z1,z2]at y2;go_wp2_with(at_builtin;refine wpList_append_own_none rfl _ _ 26 rfl w.heap.size 81 i0 2 aU hi _ _ _ rfl (c.alloc _) rfl ?_);go_roundw;(case rel=>exact⟨k+1,by omega,by go_num,by rw[C.out,cG];exact c.alloc _,f.alloc q _⟩);case measure=>simp[intOf];omega|some h=>have pc:=(n h rfl).2;(have T:∀j u,(mL p.ps)[j]?=E u->(wr.alloc<|ae #[I H p.fr,I H p.iz,Z (E h) p.ps.length m] 195).cell? (h.add j)=E u:=by intro j u hj;have:=pc j u hj;rw[World.cell?_alloc_lt _ _ _<|az _ _ this];exact this);go_wp2_with(at_builtin;refine wpList_append_own _ rfl _ _ 26 rfl w.heap.size 81 i0 (aq #[I H 0,I H 0]) 2 16 aU hi S aa ac rfl (by decide) _ _ _ rfl (c.alloc _) h p.ps.length m (mL p.ps) rfl A T D (by unfold maxLen;omega) (by omega) (by simp;omega) ?_;intro v' w2 g r _);have B:=(f.alloc q _).grown r (by simp;omega) λb hb=>(c.lt b hb).1;rw[<-FW]at g;go_wp2_with fail;go_roundw;(case rel=>exact⟨k+1,by omega,by go_num,by rw[C.out,bA];exact g,B⟩);case measure=>simp[intOf];omega);. (have F:k=l.length:=by omega);rw[F,List.take_length]at c;(have an:¬(k:Int)<(l.length:Int):=by omega);clear F;go_wp2_with fail;go_ret;simp_all
section
variable{P:aF}{w:J}{ops:Array an}{rest:List an}{o:an}{a:Act}{Q:Exit->Act->J->Prop}
def Gc(k:o.guard=G)(s x:Operand)(t e:aE)(i:o.op=.call {callee:=.builtin .append,args:=#[s,x],argTypes:=#[t,e]})(d f:O)(hs:a.eval s=d)(j:a.eval x=f)(h:O)(g:J)(b:∀ty,(aM #[t,e] ty #[d,f]).run P w=.ok h g)(l:wpList P ops Q rest (a.put o.dst h) g):wpList P ops Q (o::rest) a w:=by refine wpList_plain k λK c=>?_;unfold Oper.wp execOp;simp only[i,resolve,invoke,builtin,Sem.run_bind,Sem.run_pure,Result.andThen_ok,List.map_toArray,List.map_cons,List.map_nil,hs,j,b];exact c _ _ l
def abV(w:J)(t j ty e:aE)(k:IntKind)(i:TypeInfo)(z:O)(p:P.underlying t=E (.slice e))(c:P.underlying j=E (.int k))(hi:P.info? e=E i)(s:i.zero=E z)(n:Nat)(B:0<n)(hs:0<i.size)(b:n<=1000000)(f:i.bytes<=1000):(aM #[t,j] ty #[Z G 0 0,I H n]).run P w=.ok (Z (E ⟨w.heap.size,0,G⟩) n<|grownCap w n 0 e) (w.drew.alloc<|ae (aY z.cells n++aY z.cells (grownCap w n 0 e-n)) e):=by
 have u:IntKind.i64.wrap (n)=n:=by(have h:n<2^63:=by omega);unfold IntKind.wrap;simp[IntKind.signed,IntKind.bits];omega
 have A:=Nat.mul_le_mul b f;have l:¬281474976710656<(n)*(i.bytes:Int):=by omega
 have v:¬(n)<=0:=by omega
 have d:¬n=0:=by omega
 have x:¬(n*i.size=0):=by intro h;rcases Nat.mul_eq_zero.1 h with h|h<;>omega
 have q:¬9223372036854775807<max (n) 0:=by omega
 have g:¬9223372036854775807<(n:Int):=by omega
 have m:¬281474976710656<cH n 0*i.bytes:=by unfold cH;grind
 have y:¬i.size=0:=by omega
 have r:¬(n:Int)<0:=by omega
 simp[aM,run_underlying p,run_underlying c,sizeOf,typeInfo,zeroValue,hi,s,u,l,v,d,x,q,g,m,y,r,Question.forced,run_firstCells_none,newRow,grownCap,asInt,asIntOf]
end
def acK(n:Nat)(g:n<=1000000)(w:J):N X 164 #[Z G 0 0,I H n] w λe d=>∃v,e=W v/\d.ownsRow w.heap.size 81 2 v 0 []/\L w.heap.size w d:=by
 obtain⟨i0,hi,c,m,l⟩:=info_parts Tryz.BX;have i:¬(n)<0:=by omega
 by_cases j:n=0;.subst j;go_enter cJ,cN;go_wp2;go_ret;exact⟨_,rfl,cE _ _ _ _,ah _ _⟩
 . (have p:(n)>0:=by omega);(have k:(0)<(n):=by omega);go_enter cJ,cN;have h:=λty=>abV w 26 3 ty 81 H i0 _ aU aW hi c n (by omega) (by omega) g (by omega);have f:=grownCap_ge w n 0 81;have b:=grownCap_le_maxLen w n 0 81 (by unfold maxLen;omega);generalize grownCap w n 0 81=cap at*;go_wp2_with(at_builtin;refine Gc rfl _ _ 26 3 rfl _ _ rfl rfl _ _ h ?_);go_ret;refine⟨_,rfl,?_,?_⟩;(.refine⟨by simp,.inr ⟨w.heap.size,cap,_,rfl,aj _,heap_alloc_new w.drew _,ak _,b,?_,by simp⟩⟩;simp[size_zeroCells];omega);.exact((ah _ _).drew).alloc (aj _) _
def two(k:Nat)(x y:n):n:=if k=0 then x else y
def upto(k:Nat)(b c:List n):List n:=if k=0 then[]else if k=1 then b else b++c
def Pw{k:Nat}(hk:k<2)(b c:List n):upto (k+1) b c=upto k b c++two k b c:=by match k,hk with|0,_=>simp[upto,two]|1,_=>simp[upto,two]
def Gb(k:Nat)(b c:List n):(upto k b c).length<=b.length+c.length:=by unfold upto;grind
def aaD(b off:Nat)(y D:O)(d c:List<|Nat×Int)(w:J)(u:w.cell? ⟨b,off,G⟩=E y)(ad:w.cell? ⟨b,off+1,G⟩=E D)(h0:pA w y d)(h1:pA w D c)(ak:d.length<=100000)(al:c.length<=100000):N X 134 #[Z (E ⟨b,off,G⟩) 2 2] w λe w'=>∃v,e=W v/\w'.ownsRow w.heap.size 81 2 v (d++c).length (mL<|d++c)/\L w.heap.size w w':=by
 obtain⟨i0,hi,ac,aj,ah⟩:=info_parts Tryz.BX;have B:=az _ _ u;have l:Hid<|∀k,k<2->w.cell? ⟨b,off+k,G⟩=E (two k y D):=by show∀k,_;intro k hk;match k,hk with|0,_=>exact u|1,_=>exact ad
 have T:Hid<|∀k,k<2->pA w (two k y D) (two k d c):=by show∀k,_;intro k hk;match k,hk with|0,_=>exact h0|1,_=>exact h1
 have M:∀k,(two k d c).length<=100000:=by intro k;unfold two;grind
 go_enter Tryz.func134,Tryz.ntmps134;go_wp2_with fail;go_loopw[3,11](λs j wr=>∃k:Nat,k<=2/\j=I H k/\s=I H ((upto k d c).length:Nat)/\w=wr)(λ_ j _=>2-(intOf j).toNat);case atStart=>exact⟨0,by omega,rfl,rfl,rfl⟩
 case round=>obtain⟨k,hk,rfl,rfl,rfl⟩:=hrel;by_cases g:k<2;(.have hc:=l.out k g;obtain⟨pa,m,pe,-⟩:=T.out k g;rw[pe]at hc;have F:=Gb k d c;have ae:=M k;have hS:Hid<|_=_:=Pw g d c;(have C:(k:Int)<2:=by omega);(have ai:(0:Int)<=(k:Int):=by omega);(have am:¬(((upto k d c).length:Int)+((two k d c).length:Int))<0:=by omega);go_wp2_with fail;go_roundw;(case rel=>exact⟨k+1,by omega,by go_num,by rw[hS.out,bA];go_num,trivial⟩);case measure=>simp[intOf];omega);. (have t:k=2:=by omega);subst t;have F:=Gb 2 d c;go_wp2_with fail;refine(acK _ (by omega) _).mono ?_;rintro r w1⟨gv,rfl,hg,aa⟩;go_wp2_with fail;go_loopw[6,27](λv j wr=>∃k:Nat,k<=2/\j=I H k/\wr.ownsRow w.heap.size 81 2 v (upto k d c).length (mL<|upto k d c)/\L w.heap.size w wr)(λ_ j _=>2-(intOf j).toNat);(case atStart=>exact⟨0,by omega,rfl,hg,aa⟩);case round=>obtain⟨k,hk,rfl,f,h⟩:=hrel;by_cases g:k<2;(. (have hc:wr.cell? ⟨b,off+k,G⟩=E (two k y D):=by rw[h.cell B];exact l.out k g);have F:=Gb k d c;have ae:=M k;have hS:Hid<|_=_:=Pw g d c;(have C:(k:Int)<2:=by omega);(have ai:(0:Int)<=(k:Int):=by omega);have x:=h.size;obtain⟨pa,m,pe,A,R,q,p⟩:=(T.out k g).below h;rw[pe]at hc;cases pa with|none=>obtain⟨z1,z2⟩:=q.1 rfl;have K:=cF z1;rw[K]at hS;rw[z1,z2]at hc;go_wp2_with(at_builtin;refine wpList_append_own_none rfl _ _ 26 rfl w.heap.size 81 i0 2 aU hi _ _ _ rfl f rfl ?_);go_roundw;(case rel=>exact⟨k+1,by omega,by go_num,by rw[hS.out,cG];exact f,h⟩);case measure=>simp[intOf];omega|some z=>have pc:=(p z rfl).2;go_wp2_with(at_builtin;refine wpList_append_own _ rfl _ _ 26 rfl w.heap.size 81 i0 (aq #[I H 0,I H 0]) 2 16 aU hi ac aj ah rfl (by decide) _ _ _ rfl f z (two k d c).length m (mL<|two k d c) rfl A pc R (by unfold maxLen;omega) (by omega) x ?_;intro v' w2 i n _);have S:=h.grown n x λb hb=>(f.lt b hb).1;rw[<-FW]at i;go_wp2_with fail;go_roundw;(case rel=>exact⟨k+1,by omega,by go_num,by rw[hS.out,bA];exact i,S⟩);case measure=>simp[intOf];omega);. (have t:k=2:=by omega);subst t;go_wp2_with fail;go_ret;exact⟨_,rfl,f,h⟩
def AA:O->Prop|ai _|I _ _=>True|_=>False
def qk(w:J)(v:O):Prop:=∀g b T fr,v.ownBlock=E g->w.heap[g]?=E (ae b T fr)->b.size≠0/\∀u∈b.toList,AA u
def qk.nil(w:J)(n c:Nat):qk w<|Z G n c:=λg b T fr h=>by cases h
def qk.move{w:J}(h:qk w j)(e:∀g,j.ownBlock=E g->i.heap[g]?=w.heap[g]?):qk i j:=λg b T fr c d=>h g b T fr c<|by grind
def Oa(e:∀u∈C.toList,AA u)(n:Nat):∀u∈(aY C n).toList,AA u:=by
 intro v b;simp[aY]at b;obtain⟨j,d,rfl⟩:=b;by_cases hs:C.size=0;.simp[hs]at d
 .have c:j%C.size<C.size:=Nat.mod_lt _ (by omega);grind
def adA{P:aF}(w:J)(base:Nat)(t e:aE)(i:TypeInfo)(z:O)(size bytes:Nat)(ht:P.underlying t=E (.slice e))(hi:P.info? e=E i)(hz:i.zero=E z)(x:i.size=size)(S:i.bytes=bytes)(ak:z.cells.size=size)(ah:0<size)(M:∀u∈z.cells.toList,AA u)(v:O)(n:Nat)(xs:List O)(k:w.ownsRow base e size v n xs)(ad:qk w v)(a:Addr)(m c:Nat)(b:List O)(D:b.length=m*size)(f:∀j u,b[j]?=E u->w.cell? (a.add j)=E u)(h1:∀u∈b,u.oneCell'=U)(ao:∀u∈b,AA u)(hm:0<m)(aa:n+m<=maxLen)(p:(n+m)*bytes<=140737488355328)(B:base<=w.heap.size):∃q l,(∀ty,(aM #[t,t] ty #[v,Z (E a) m c]).run P w=.ok q l)/\l.ownsRow base e size q (n+m) (xs++b)/\w.grownBy l v.ownBlock/\qk l q:=by
 have key:∀ty,∃q l,(aM #[t,t] ty #[v,Z (E a) m c]).run P w=.ok q l/\l.ownsRow base e size q (n+m) (xs++b)/\w.grownBy l v.ownBlock:=λty=>by obtain⟨q,l,r1,r2,r3,_⟩:=run_append_own w base t ty e i z size bytes ht hi hz x S ak ah v n xs k a m c b D f h1 aa p B;grind
 have ac:n+m<=9223372036854775807:=by simp only[maxLen]at aa;omega
 subst x;subst S;have F:b.length≠0:=by rw[D];exact Nat.mul_ne_zero (by omega) (by omega)
 have h:∀(d:Array O)(n' c':Nat),d.size≠0->(∀u∈d.toList,AA u)->qk (w.drew.alloc<|ae d e) (Z (E ⟨w.heap.size,0,G⟩) n' c'):=by intro d n' c' aq hc g R T fr y hh;injection y with y;subst y;have:=heap_alloc_new w.drew<|ae d e;simp_all
 have one:∃q l,(∀ty,(aM #[t,t] ty #[v,Z (E a) m c]).run P w=.ok q l)/\qk l q:=by rcases k.2 with⟨rfl,rfl⟩|⟨g,cap,d,rfl,am,y,an,ap,aj,ai⟩;(.refine⟨_,_,λty=>run_append_nil w t ty e i z ht hi hz a m c b D f (by omega) (by omega)<|by grind,h _ _ _ (λh0=>F<|by grind) ?_⟩;intro u r;simp only[cO,cQ]at r;rcases r with r|r;(.grind);.exact Oa M _ u r);.obtain⟨ar,al⟩:=ad g d e (0,0) rfl y;by_cases s:n+m<=cap;(. (have K:n*i.size+b.length<=d.size:=by rw[D,aj,<-Nat.add_mul];exact Nat.mul_le_mul_right _ s);refine⟨_,_,λty=>run_append_room w t ty e i ht hi g n cap d y a m c b D f h1 s K,?_⟩;intro g' R T fr C hh;injection C with C;subst C;rw[setRow_heap w g d _ e (0,0) y]at hh;grind);.have A:=k.cells rfl;refine⟨_,_,λty=>run_append_grow w t ty e i z ht hi hz ⟨g,0,G⟩ n cap xs k.1 A a m c b D f (by omega) (by omega)<|growslice_fits (by omega) p,h _ _ _ (λh0=>F<|by grind) ?_⟩;intro u r;simp only[cO,cQ]at r;rcases r with(r|r)|r;(.grind);(.grind);.exact Oa M _ u r
 obtain⟨q,l,hr,hb⟩:=one;refine⟨q,l,hr,?_⟩;obtain⟨v2,w2,r1,r2,r3⟩:=key 0;grind
end
end Go.Proofs.YtldeiiffabfmeaaGreatDoor
