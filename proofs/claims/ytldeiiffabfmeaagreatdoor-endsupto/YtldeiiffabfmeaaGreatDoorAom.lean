/- - -/
import Derived.ChangeKeysEq
import Derived.Test.YtldeiiffabfmeaaGreatDoorRows
import Derived.Deep.Slices
import Derived.Carry
import Derived.ProofKit
import Derived.OpenShut
import Derived.JoinedCond
import Derived.LaidMore
import Derived.Test.YtldeiiffabfmeaaGreatDoorCards
import Derived.Test.YtldeiiffabfmeaaGreatDoorTie
import Derived.Conc.LeavingOf
import Derived.Deep.DeepHandedRow
import Derived.SevenTiedAt
import Derived.Test.YtldeiiffabfmeaaGreatDoorAnm
set_option linter.all false
set_option maxRecDepth 100000
set_option maxHeartbeats 4000000
open Go renaming undef->I,Value->Y,World->J,TypeId->ai,DataW->ak,Code->an,MemPlace->ar,Operand->aM,FuncId->aP,Program->bd,OpenClaim->bz
open Option renaming some->L,none->V,getD_some->ao,map_some->bC,isSome_iff_exists->bV
open Go.IntKind renaming i64->S
open Go.Value renaming int->U,pointer->u,bool->Q,slice->A,agg->aj,tuple->aD,nilFunc->aE,map->aH,string->aU,nilIface->aV
open Go.Proofs.Tryz renaming prog->X,f18->aq,f14->bg,underlying3->bh,underlying22->bq,underlying25->bJ,underlying42->bN,underlying250->bP
open Bool renaming true->Z,false->ae,and_eq_true->aA
open Go.Exit renaming normal->M,ret->ay
open Go.Proofs.YtldeiiffabfmeaaGreatDoor.Rows renaming uptoBulk->T,uptoBulkAll->aI,laid_orderly_code_steps->bu
open Go.DataW renaming trod->ah,trod_struct->aJ,trod_int->bG,Trod->bM
open Go.Lit renaming int->au
open Nat renaming lt_of_lt_of_le->ax,le_refl->aN,mul_comm->aW,mod_lt->aX,eq_zero_or_pos->bl,zero_mul->bI,mul_one->bR,mul_mod->cj,add_mod->ck,mod_eq_of_lt->cx
open List renaming range->az,mem_map->aF,getElem?_eq_getElem->aK,mem_cons->bD,length_cons->bF,mem_range->bK,mem_cons_self->bQ,getElem?_map->bT,getElem?_eq_none->bU,map_cons->bX,map_nil->bY
open Go.Code renaming region->aG
open Go.World renaming cell?->aQ,cell?_of_block->aZ,cells?_some->bm,block_lt_of_cell?->bn,cell?_spot->bH
open Go.WideShapes renaming add_plain->aY,okWide_struct->cA
open Go.Deep renaming open_slice->bj
open Option.some renaming inj->bw
open Int renaming natCast_emod->bA,natCast_ediv->bB,natCast_add->cg,le_trans->cz
open Array renaming getElem?_eq_some_iff->bE,ext'->bO
variable{v x y d h:Nat}{j l:J}{n o p q:Y}{r:List Y}{s:Go.Act}{t:List ar}{B C D:Int}{F:Array Y}{W:Type}
namespace Go.Proofs.YtldeiiffabfmeaaGreatDoor
section
open Go.RowKit Go.Maps Go.Rel Go.Sort
def z8{nb:Nat}{fb:Nat->Int}{a b c:Int}{nl:Nat}{ts:Nat->iP}{fs:Nat->Int}(h:mu nb fb a b c nl ts v fs=Z):lh nb fb a b c=Z/\logAt nl ts=V/\nZ v fs=V:=by simp only[mu,aA,Option.isNone_iff_eq_none]at h;grind
def aeA{nb:Nat}{fb:Nat->Int}{a b c:Int}{nl:Nat}{ts:Nat->iP}{fs:Nat->Int}(h:mu nb fb a b c nl ts v fs=ae):newAt nb fb a b c nl ts v fs≠(0,0)/\0<(newAt nb fb a b c nl ts v fs).1/\(newAt nb fb a b c nl ts v fs).1<=3:=by unfold newAt;cases e:lh nb fb a b c with|false=>simp|true=>cases d:logAt nl ts with|some k=>simp|none=>cases hs:nZ v fs with|some k=>simp|none=>simp[mu,e,d,hs]at h
section
variable(w:J)(N:Nat)(vB vL vS:Y)(a b c:Int){nb:Nat}{fb:Nat->Int}{nl:Nat}{ts:Nat->iP}{ns:Nat}{fs:Nat->Int}
def ZG(r:tS w N vB vL vS a b c)(q:iQ w vB 1 nb fb)(v:lI w vL nl ts)(t:iQ w vS 2 ns fs)(x:mu nb fb a b c nl ts ns fs=ae)(s1:s.tmps.size=152)(s2:s.defers=[])(s3:s.tmps.getD 1 I=u (L ⟨N,0,V⟩))(e:s.tmps.getD 4 I=Q Z):lP.wp X (λex s f=>ex=ay/\(s.defers=[]/\s.tmps.getD 2 I=u V/\s.tmps.getD 3 I=Q Z)/\Below w.heap.size w f) s w:=by
 obtain⟨n1,y,D⟩:=aeA x;rw[Mf];have C:zo.wp X (λex s f=>ex=M/\(s.tmps.size=152/\s.defers=[]/\s.tmps.getD 1 I=u (L ⟨N,0,V⟩)/\s.tmps.getD 4 I=Q Z)/\(s.tmps.getD 5 I=u V/\s.tmps.getD 6 I=U S ((newAt nb fb a b c nl ts ns fs).1:Nat))/\Below w.heap.size w f) s w:=by obtain⟨g,rfl,i⟩:=pU s s1 s2;rw[i]at s3 e;rw[s3,e];exact aaL (w:=w) (N:=N) (g:=g) (vB:=vB) (vL:=vL) (vS:=vS) (a:=a) (b:=b) (c:=c) r q v t n1
 refine wp_seq<|iM C ?_;rintro ex s k⟨rfl,⟨s1,s2,s3,e⟩,⟨j,h⟩,d⟩;generalize(newAt nb fb a b c nl ts ns fs).1=p at*;have z:BA.wp X (λex s f=>ex=M/\(s.tmps.size=152/\s.defers=[]/\s.tmps.getD 1 I=u (L ⟨N,0,V⟩)/\s.tmps.getD 4 I=Q Z/\s.tmps.getD 5 I=u V/\s.tmps.getD 6 I=U S (p:Nat)/\s.tmps.getD 8 I=Q (mu nb fb a b c nl ts ns fs))/\Below k.heap.size k f) s k:=by obtain⟨g,rfl,i⟩:=pU s s1 s2;rw[i]at s3 e j h;rw[s3,e,j,h];exact Pu (w:=k) (N:=N) (g:=g) (vB:=vB) (vL:=vL) (vS:=vS) (a:=a) (b:=b) (c:=c) _ _ (r.below d) (q.below d) (v.below d)<|t.below d
 refine wp_seq<|iM z ?_;rintro ex s o⟨rfl,⟨s1,s2,s3,e,j,h,m⟩,l⟩;rw[x]at m;have B:zJ.wp X (λex s f=>ex=ay/\(s.defers=[]/\s.tmps.getD 2 I=u V/\s.tmps.getD 3 I=Q Z)/\f=o) s o:=by obtain⟨g,rfl,i⟩:=pU s s1 s2;rw[i]at s3 e j h m;rw[s3,e,j,h,m];exact agp (w:=o) (N:=N) (g:=g) (cd:=p) y D
 refine wp_seq<|iM B ?_;rintro ex s E⟨rfl,hs,n⟩;rw[n];exact⟨rfl,hs,d.trans<|l.mono d.size⟩
def aaZ(a4:N<w.heap.size)(hM:tS w N vB vL vS a b c)(hB:iQ w vB 1 nb fb)(hL:lI w vL nl ts)(hS:iQ w vS 2 ns fs)(ap:∀j,j<ns->(au S<|fs<|2*j+1).wf=Z)(a7:∀i,i<nl->∀j,j<(ts i).nc*4->(au S<|(ts i).c j).wf=Z)(hm:mu nb fb a b c nl ts ns fs=Z){s:Act}(s1:s.tmps.size=152)(s2:s.defers=[])(s3:s.tmps.getD 1 I=u (L ⟨N,0,V⟩))(z:s.tmps.getD 4 I=Q Z):lP.wp X (λex s d=>ex=ay/\∃G l e r t K R a3,(s.defers=[]/\s.tmps.getD 2 I=u (L ⟨G,0,V⟩)/\s.tmps.getD 3 I=Q Z)/\sw w.heap.size l e ⟨nb,fb,nl,ts⟩ a b c r t K R a3 ns fs/\Below w.heap.size w l/\l.heap.size<=G/\(∀x,x<l.heap.size->d.heap[x]?=l.heap[x]?)/\l.heap.size<=d.heap.size/\IN d G e vB vL vS a b c ⟨nb,fb,nl,ts⟩ (ly fs ns,lS fs ns) nl) s w:=by
 obtain⟨y1,y2,y3⟩:=z8 hm;have a9:=(Bi y1).1;have be:=(BU y2).1;have bf:=(yj y3).1;have aR:=λj hj=>Cg (yj y3).2 ns (aN _) j hj;have a6:∀i,i<nl->pk (ts i):=λi hi=>⟨nO (BU y2).2 hi,a7 i hi⟩;rw[Mf];have h2:zo.wp X (λex s d=>ex=M/\(s.tmps.size=152/\s.defers=[]/\s.tmps.getD 1 I=u (L ⟨N,0,V⟩)/\s.tmps.getD 4 I=Q Z)/\(∃e r t K R a3,s.tmps.getD 5 I=u (L ⟨e,0,V⟩)/\s.tmps.getD 6 I=U S 0/\sw w.heap.size d e ⟨nb,fb,nl,ts⟩ a b c r t K R a3 ns fs)/\Below w.heap.size w d) s w:=by obtain⟨g,rfl,n⟩:=pU s s1 s2;rw[n]at s3 z;rw[s3,z];exact aag (w:=w) (N:=N) (g:=g) (vB:=vB) (vL:=vL) (vS:=vS) (a:=a) (b:=b) (c:=c) hM hB hL hS ap y1 y2 y3
 refine wp_seq<|iM h2 ?_;clear h2 s1 s2 s3 z s;rintro ex s l⟨rfl,⟨s1,s2,s3,z⟩,⟨e,r,t,K,R,a3,B,s6,aw⟩,f⟩;have h3:BA.wp X (λex s d=>ex=M/\(s.tmps.size=152/\s.defers=[]/\s.tmps.getD 1 I=u (L ⟨N,0,V⟩)/\s.tmps.getD 4 I=Q Z/\s.tmps.getD 5 I=u (L ⟨e,0,V⟩)/\s.tmps.getD 6 I=U S 0/\s.tmps.getD 8 I=Q (mu nb fb a b c nl ts ns fs))/\Below l.heap.size l d) s l:=by obtain⟨g,rfl,n⟩:=pU s s1 s2;rw[n]at s3 z B s6;rw[s3,z,B,s6];exact Pu (w:=l) (N:=N) (g:=g) (vB:=vB) (vL:=vL) (vS:=vS) (a:=a) (b:=b) (c:=c) _ _ (hM.below f) (hB.below f) (hL.below f)<|hS.below f
 refine wp_seq<|iM h3 ?_;rintro ex s o⟨rfl,⟨s1,s2,s3,z,B,s6,s8⟩,P⟩;rw[hm]at s8;have h4:zJ.wp X (λex s d=>ex=M/\(s.tmps.size=152/\s.defers=[]/\s.tmps.getD 1 I=u (L ⟨N,0,V⟩)/\s.tmps.getD 5 I=u (L ⟨e,0,V⟩))/\d=o) s o:=by obtain⟨g,rfl,n⟩:=pU s s1 s2;rw[n]at s3 z B s6 s8;rw[s3,z,B,s6,s8];exact VO (w:=o) (N:=N) (g:=g) (e:=e)
 refine wp_seq<|iM h4 ?_;rintro ex s bc⟨rfl,⟨s1,s2,s3,B⟩,F⟩;rw[F];clear F bc;have b3:=f.trans<|P.mono f.size;have M3:=iJ.below hM b3;obtain⟨aB,p,rfl,-,-⟩:=id hB;obtain⟨aL,q,rfl,-,bi⟩:=id hL;obtain⟨aS,v,rfl,-,br⟩:=id hS;have h6:DU.wp X (λex s d=>ex=M/\(s.tmps.size=152/\s.defers=[]/\s.tmps.getD 1 I=u (L ⟨N,0,V⟩)/\s.tmps.getD 9 I=u (L ⟨o.heap.size,0,V⟩))/\d=o.alloc (.cells (xF e (A aB nb p) (A aL nl q) (A aS ns v) a b c<|nb+1) 65)) s o:=by obtain⟨g,rfl,n⟩:=pU s s1 s2;rw[n]at s3 B;rw[s3,B];exact WV (w:=o) (N:=N) (g:=g) (e:=e) (vL:=A aL nl q) (vS:=A aS ns v) (a:=a) (b:=b) (c:=c) aB nb p a9 M3
 refine wp_seq<|iM h6 ?_;clear h6 s1 s2 s3 B s;rintro ex s w4⟨rfl,m,aa⟩;have y:=aet o e (A aB nb p) (A aL nl q) (A aS ns v) a b c<|nb+1;rw[<-aa]at y;have a0:Below o.heap.size o w4:=by rw[aa];exact(Below.refl _ _).alloc (aN _) _
 have aO:=y.lt;clear aa;have b4:=b3.trans<|a0.mono b3.size;have M4:=iJ.below hM b4;have am:N<o.heap.size:=ax a4 b3.size;have bt:=b3.size;have a8:=P.size;generalize hG:o.heap.size=G at*;have av:∀x,x<l.heap.size->w4.heap[x]?=l.heap[x]?:=λx hx=>by rw[a0.block x<|by omega,P.block x hx]
 have h7:EH.wp X (λex s d=>ex=M/\(kj N G s/\s.tmps.getD 10 I=U S ((0:Nat):Int))/\d=w4) s w4:=by obtain⟨s1,s2,s3,E⟩:=m;obtain⟨g,rfl,n⟩:=pU s s1 s2;rw[n]at s3 E;rw[s3,E];exact acA (w:=w4) (N:=N) (G:=G) (g:=g)
 refine wp_seq<|wp_seq<|iM h7 ?_;clear h7 m s;rintro ex s bp⟨rfl,⟨m,aT⟩,C⟩;rw[C];clear C bp;refine Xk bf aR am aO (M4.cell (j:=5)<|by simp) ?_ y m aT ?_;.intro h0;obtain⟨sb,so,bb,W,h⟩:=br h0;exact⟨sb,so,bb,by omega,λj hj=>by rw[aZ<|b4.block sb W];exact h j hj⟩
 clear m aT s;intro s wA m ad ac;have a1:Dv.wp X (λex s d=>ex=M/\(kj N G s/\s.tmps.getD 11 I=U S ((0:Nat):Int))/\d=wA) s wA:=by obtain⟨s1,s2,s3,E⟩:=m;obtain⟨g,rfl,n⟩:=pU s s1 s2;rw[n]at s3 E;rw[s3,E];exact adM (w:=wA) (N:=N) (G:=G) (g:=g)
 refine wp_seq<|wp_seq<|iM a1 ?_;clear a1 m s;rintro ex s a5⟨rfl,⟨m,a2⟩,O⟩;rw[O];clear O a5;refine VW (D:=⟨nb,fb,nl,ts⟩) (s0:=(ly fs ns,lS fs ns)) be a6 (Ki fs ns ap) am aO (M4.cell (j:=4)<|by simp) ?_ ad (ac.congr λj hj=>Fg (λ_ _=>rfl) (λk _=>(Oh fs ns k).symm) hj) m a2 ?_;.intro h0;obtain⟨lb,lo,bo,W,vs,h,hT⟩:=bi h0;refine⟨lb,lo,bo,by omega,vs,λj hj=>by rw[aZ<|b4.block lb W];exact h j hj,λi hi w5 aC=>?_⟩;exact((hT i hi).all.iR (w':=w5) ⟨by have:=aC.1;omega,λb _ hb=>by rw[aC.2 b<|by omega,b4.block b hb]⟩).rd
 clear m a2 s;intro s wB m H al;have hZ:EE.wp X (λex s d=>ex=ay/\(s.defers=[]/\s.tmps.getD 2 I=u (L ⟨G,0,V⟩)/\s.tmps.getD 3 I=Q Z)/\d=wB) s wB:=by obtain⟨s1,s2,s3,E⟩:=m;obtain⟨g,rfl,n⟩:=pU s s1 s2;rw[n]at s3 E;rw[s3,E];exact afA (w:=wB) (N:=N) (G:=G) (g:=g)
 refine iM hZ ?_;rintro ex s' w9⟨rfl,hs,ba⟩;rw[ba];exact⟨rfl,G,l,e,r,t,K,R,a3,hs,aw,f,a8,λx hx=>by rw[H.2 x<|by omega];exact av x hx,by have:=H.1;omega,al⟩
end
def adk:te=aG 1 (opsL te).toArray ae:=by kernel_rfl
def adO:(opsL te).toArray=([]++opAt (opsL te) 0::[opAt (opsL te) 1]).toArray:=by kernel_rfl
def SX:(opAt (opsL te) 0).op=.call ⟨.value<|.func 33,#[],#[]⟩/\(opAt (opsL te) 0).guard=V/\(opAt (opsL te) 0).dst=L 15/\(opAt (opsL te) 1).op=.assign (.tmp 15)/\(opAt (opsL te) 1).guard=V/\(opAt (opsL te) 1).dst=L 4:=⟨by kernel_rfl,by kernel_rfl,by kernel_rfl,by kernel_rfl,by kernel_rfl,by kernel_rfl⟩
def abE(old:jL):∀o∈[]++oC (opAt (opsL te) 0)::[opAt (opsL te) 1],mr (jb old) X o:=rO<|by kernel_rfl
def run_assign{P:bd}{o:Oper}(ev:aM->Y)(w:J){x:aM}(a:o.op=.assign x):(execOp ev o).run P w=.ok (.value<|ev x) w:=by unfold execOp;simp only[a];simp[go_sem]
def LZ(a:Array Y):results bg a=pure (aD #[a.getD 2 I,a.getD 3 I]):=by unfold results;rw[show Tryz.f14.results=#[.tmp 2,.tmp 3]from by kernel_rfl,Array.mapM_eq_mapM_toList];simp
structure pM(z:Nat)(O:Nat->Nat)(w:J)(G e:Nat)(vB vL vS:Y)(c:iB)(s0:Cells):Prop where
 no:Fz z O G
 law:∃vr va,iJ w G 65 210 (kZ e vB vL vS (c.W:Nat) (c.C:Nat) (c.K:Nat) (c.D.nb+1) (j5 c.D s0 c.D.nl).1 (valOf (j5 c.D s0 c.D.nl).1 (j5 c.D s0 c.D.nl).2) vr va)/\w.ownsRow (G+1) 73 4 vr c.D.nl (uR c.D s0 c.D.nl)/\w.ownsRow (G+1) 4 1 va c.D.nl (uN c.D s0 c.D.nl)/\(∀g,some g=vr.ownBlock->Fz z O g)/\(∀g,some g=va.ownBlock->Fz z O g)
def pM.moveF{O d:Nat->Nat}{w:J}{G e:Nat}{c:iB}{s0:Cells}(h:pM v O w G e n o p c s0)(f:Af v O w j)(B:∀b,b<w.heap.size->d b=O b):pM v d j G e n o p c s0:=by
 obtain⟨m,x,t,i,l,k,r,q⟩:=h;have no:∀b,b<w.heap.size->Fz v O b->Fz v d b:=λb y s=>by unfold Fz ph Own at*;rw[B b y];exact s
 refine⟨no G i.lt m,x,t,i.block<|f.block G m i.lt,vf l λg a=>f.block g (r g a) (oI l a).2.1,vf k λg a=>f.block g (q g a) (oI k a).2.1,λg a=>no g (oI l a).2.1<|r g a,λg a=>no g (oI k a).2.1<|q g a⟩
def pM.move{O O':Nat->Nat}{w:J}{G e:Nat}{c:iB}{s0:Cells}(h:pM v O w G e n o p c s0)(a:Ag v O w j)(d:∀b,b<w.heap.size->O' b=O b):pM v O' j G e n o p c s0:=h.moveF a.af d
def pM.re{O:Nat->Nat}{w:J}{G e:Nat}{c:iB}{s0:Cells}(h:pM v O w G e n o p c s0)(a:Nat->Question->Nat)(d:Nat):pM v O (w.re a d) G e n o p c s0:=h.move (Pb w a d).ag λ_ _=>rfl
def B9(z:Nat)(O:Nat->Nat)(w f:J)(G:Nat)(i j k:Y)(c:iB)(g:Nat)(fs:Nat->Int):Prop:=∃a e h d K R,nG z a f e c h d K R (mA c.D g fs)/\iD (λ_=>True) w f/\(∀b,b<w.heap.size->a b=O b)/\pM z a f G e i j k c (ly fs g,lS fs g)
def B9.re{O:Nat->Nat}{w:J}{G:Nat}{c:iB}{fs:Nat->Int}(h:B9 v O w j G n o p c x fs)(a:Nat->Question->Nat)(d:Nat):B9 v O w (j.re a d) G n o p c x fs:=by obtain⟨i,e,b,f,K,R,l,m,k,g⟩:=h;exact⟨i,e,b,f,K,R,l.re a d,m.re a d,k,g.re a d⟩
def iQ.kQ{w:J}{k n:Nat}{f:Nat->Int}(h:iQ w o k n f)(hk:iD (λ_=>True) w j):iQ j o k n f:=by obtain⟨a,cap,e,i,m⟩:=h;refine⟨a,cap,e,i,λl=>?_⟩;obtain⟨b,off,e1,d,c⟩:=m l;exact⟨b,off,e1,ax d hk.size,λg p=>by rw[hk.cell trivial d];exact c g p⟩
def lE.kQ{w:J}{a b c d:Y}{t:iP}(h:lE w a b c d t)(hk:iD (λ_=>True) w j):lE j a b c d t:=⟨h.r.kQ hk,h.wr.kQ hk,h.g.kQ hk,h.c.kQ hk⟩
def lI.kQ{w:J}{n:Nat}{ts:Nat->iP}(h:lI w o n ts)(hk:iD (λ_=>True) w j):lI j o n ts:=by obtain⟨a,cap,e,g,p⟩:=h;refine⟨a,cap,e,g,λm=>?_⟩;obtain⟨b,off,e1,d,k,c,l⟩:=p m;exact⟨b,off,e1,ax d hk.size,k,λf q=>by rw[hk.cell trivial d];exact c f q,λi hi=>(l i hi).kQ hk⟩
section
variable{t0:ai}{old:jL}(h0:oj old t0)(w:J)(hZ:Zero w)(hpos:0<w.heap.size)(vB vL vS:Y)(a b c:Int){nb:Nat}{fb:Nat->Int}{nl:Nat}{ts:Nat->iP}{ns:Nat}{fs:Nat->Int}
include h0 hZ hpos
def OF{k:Y->J->Prop}(o:∀s w1,s.tmps.size=152->s.defers=[]->s.tmps.getD 1 I=u (L ⟨w.heap.size,0,V⟩)->s.tmps.getD 4 I=Q Z->w.heap.size<w1.heap.size->tS w1 w.heap.size vB vL vS a b c->iD (λ_=>True) w w1->jH (jb old) X [] lP (QP bg k) s w1):lj (jb old) X 14 #[aj #[vB,U S a,U S b,U S c,vL,vS]] w k:=by
 have F:=(jD old).fits;have C:=(jD old).kg;have B:=C.jS;refine lj.xM F B Tryz.func14 VY ?_;rw[X7,PV];change jH _ _ _ _ (QP bg k) _ _;refine tE (by kernel_rfl) (λs g=>(s.tmps.size=152/\s.defers=[]/\s.tmps.getD 1 I=u (L ⟨w.heap.size,0,V⟩))/\(w.heap.size<g.heap.size/\tS g w.heap.size vB vL vS a b c)/\iD (λ_=>True) w g) (λs g e d f=>⟨f.1,f.2.1,f.2.2.re e d⟩) (λe d=>iM (aeR (w.re e d) vB vL vS a b c) λex s g f=>⟨f.1,f.2.1,?_⟩) ?_;.rw[f.2.2];have r:=km (w.re e d) [vB,U S a,U S b,U S c,vL,vS] 42;exact⟨⟨r.lt,r⟩,((iD.refl _ _).alloc _).sN⟩
 rintro s w1⟨⟨s1,s2,s3⟩,⟨i,t⟩,hk⟩;refine kz F B ?_;obtain⟨n,o2,y,x,E,o6⟩:=SX;rw[adk];refine Bm F C adO n o2 (pg<|by kernel_rfl) Tryz.func33 (by kernel_rfl) (by kernel_rfl) (abE old) (R:=λj g=>j=s/\∃e d,g=w1.re e d) (λj g e d f=>⟨f.1,by obtain⟨p,G,rfl⟩:=f.2;exact⟨e,d,rfl⟩⟩) (λj g e d f=>oP f e d) (λe d=>⟨rfl,rfl,e,d,rfl⟩) ?_;rintro j g⟨rfl,e,d,rfl⟩;refine⟨λv m=>v=Q Z/\iD (λ_=>True) w1 m,?_,?_⟩;.rw[show(#[]:Array aM).map j.eval=#[]from by simp];have q:=Yc h0 w1 (hZ.iR hk hpos)<|ax hpos hk.size;exactλz=>(q z).re e d
 rintro v H⟨rfl,h⟩l d2;refine wpList_plain E λK D=>j7 (run_assign _ _ x) (D _ _ ⟨rfl,?_⟩);rw[y,o6];refine oP ?_ l d2;refine o _ _ (by rw[kx,kx];exact s1) (by rw[put_defers,put_defers];exact s2) (by rw[iK _<|by decide,iK _<|by decide];exact s3) ?_ (ax i h.size) (t.block<|h.block _ trivial i)<|hk.trans h;rw[m8 _<|by rw[kx,s1];decide,oJ,m8 _<|by rw[s1];decide]
def Ez(i:iQ w vB 1 nb fb)(l:lI w vL nl ts)(j:iQ w vS 2 ns fs)(m:mu nb fb a b c nl ts ns fs=ae):lj (jb old) X 14 #[aj #[vB,U S a,U S b,U S c,vL,vS]] w λr f=>r=aD #[u V,Q Z]/\iD (λ_=>True) w f:=by refine OF h0 w hZ hpos vB vL vS a b c λs w1 s1 s2 s3 k o n hk=>?_;refine mR OG (λex s f=>ex=ay/\(s.defers=[]/\s.tmps.getD 2 I=u V/\s.tmps.getD 3 I=Q Z)/\iD (λ_=>True) w1 f) (λex a f g d e=>⟨e.1,e.2.1,e.2.2.re g d⟩) (λex a f e=>by rw[e.1];trivial) (λg d=>iM (ZG (w1.re g d) w.heap.size vB vL vS a b c n ((i.kQ hk).re g d) ((l.kQ hk).re g d) ((j.kQ hk).re g d) m s1 s2 s3 k) λex s f e=>⟨e.1,e.2.1,(iD.jF e.2.2).sN⟩) ?_;rintro ex p f⟨rfl,⟨r1,r2,r3⟩,h⟩;exact⟨.inr rfl,λ_=>⟨_,by rw[LZ,r2,r3];rfl,rfl,hk.trans h⟩⟩
def DX{z:Nat}(hz:1<=z){O:Nat->Nat}(N:ph z O 0)(hB:iQ w vB 1 nb fb)(hL:lI w vL nl ts)(hS:iQ w vS 2 ns fs)(D:∀j,j<ns->ji (fs<|2*j+1))(P:∀i,i<nl->∀j,j<(ts i).nc*4->ji ((ts i).c j))(hm:mu nb fb a b c nl ts ns fs=Z):lj (jb old) X 14 #[aj #[vB,U S a,U S b,U S c,vL,vS]] w λr k=>∃G,r=aD #[u<|L ⟨G,0,V⟩,Q Z]/\B9 z O w k G vB vL vS ⟨⟨nb,fb,nl,ts⟩,a.toNat,b.toNat,c.toNat⟩ ns fs:=by
 have f:=(z8 hm).1;have ha:((a.toNat:Nat):Int)=a:=by simp only[lh,aA,within_iff]at f;omega
 have hb:((b.toNat:Nat):Int)=b:=by simp only[lh,aA,within_iff]at f;omega
 have hc:((c.toNat:Nat):Int)=c:=by simp only[lh,aA,within_iff]at f;omega
 refine OF h0 w hZ hpos vB vL vS a b c λs w1 s1 s2 s3 s4 B hM hk=>?_;have h:0<w1.heap.size:=ax hpos hk.size;have aa:Zero w1:=hZ.iR hk hpos;have ad:=(Bi f).1;have av:=(yj (z8 hm).2.2).1;refine mR OG (λex s k=>ex=ay/\∃G,(s.defers=[]/\s.tmps.getD 2 I=u (L ⟨G,0,V⟩)/\s.tmps.getD 3 I=Q Z)/\B9 z O w k G vB vL vS ⟨⟨nb,fb,nl,ts⟩,a.toNat,b.toNat,c.toNat⟩ ns fs) (λex a k m d n=>⟨n.1,by obtain⟨G,h1,h2⟩:=n.2;exact⟨G,h1,h2.re m d⟩⟩) (λex a k n=>by rw[n.1];trivial) (λm d=>iM (aaZ (w1.re m d) w.heap.size vB vL vS a b c B hM ((hB.kQ hk).re m d) ((hL.kQ hk).re m d) ((hS.kQ hk).re m d) D P hm s1 s2 s3 s4) λex s k n=>⟨n.1,?_⟩) ?_;.obtain⟨G,y,e,al,E,K,R,ap,hs,l,am,hG,v,ac,vr,va,l1,l2,l3⟩:=n.2;refine⟨G,hs,?_⟩;have o:iD (λ_=>True) w1 y:=(iD.jF am).sN;have q:iD (λ_=>True) y k:=⟨ac,λx _ p=>v x p⟩;have H:Zero y:=aa.iR o h;rw[<-ha,<-hb,<-hc]at l l1;have hE:=sw.nY (W:=a.toNat) (C:=b.toNat) (Kk:=c.toNat) l ad (by omega) (z:=z) hz (O:=O) N H h;have hcut:∀x,G<=x->Fz z (nF (ri z O (w1.re m d).heap.size nb K R ap) y.heap.size) x:=λx p=>⟨qD hz<|AO _<|by omega,AO _<|by omega⟩;refine⟨nF (ri z O (w1.re m d).heap.size nb K R ap) y.heap.size,e,al,E,K,R,hE.iR q λx p=>qu _ p,(hk.trans o).trans q,λx p=>?_,hcut G<|aN _,vr,va,l1,l2,l3,λg F=>hcut g<|by have:=(oI l2 F).1;omega,λg F=>hcut g<|by have:=(oI l3 F).1;omega⟩;have t:x<w1.heap.size:=ax p hk.size;rw[qu _<|ax t o.size];exact IF _ _ t
 .rintro ex s' k⟨rfl,G,⟨r1,r2,r3⟩,ho⟩;exact⟨.inr rfl,λ_=>⟨_,by rw[LZ,r2,r3];rfl,G,rfl,ho⟩⟩
end
def xC{old:jL}{w:J}{a:Act}{n:List Nat}{N:Exit->Act->J->Prop}{x y:an}{id k d:Nat}{f:aP}{G:Array aM}{ts:Array ai}{fn:Func}(hx:x=aG id ((opsL x).take k++opAt (opsL x) k::(opsL x).drop (k+1)).toArray ae)(z:(opAt (opsL x) k).op=.call ⟨.value<|.func f,G,ts⟩)(hg:(opAt (opsL x) k).guard=V)(hd:(opAt (opsL x) k).dst=L d)(D:∀a∈G,kh (jb old) a)(hf:Tryz.prog.funcs[f]?=L fn)(hb:fn.body.isNone=ae)(hn:(fn.name== "runtime.NumGoroutine")=ae)(E:∀o∈(opsL x).take k++oC (opAt (opsL x) k)::(opsL x).drop (k+1),mr (jb old) X o)(r:Act->Prop)(p:∀ops c,c.heap=w.heap->wpList X ops (λex s b=>ex=M/\r s/\b=c) ((opsL x).take k) a c)(l:∀s,r s->G.map s.eval=F){t:Y->J->Prop}(m:lj (jb old) X f F w t)(P:Y->Act->Prop)(j:∀ops s v c,r s->(∃b,t v b)->wpList X ops (λex g b=>ex=M/\P v g/\b=c) ((opsL x).drop<|k+1) (s.put (L d) v) c)(hk:∀v b g,t v b->P v g->jH (jb old) X n y N g b):jH (jb old) X n (.seq x y) N a w:=by
 have K:=(jD old).fits;have C:=(jD old).kg;have B:=C.jS;refine kz K B ?_;rw[hx];refine Bm K C rfl z hg D hf hb hn E (R:=λg c=>r g/\∃h d,c=w.re h d) (λg c h d i=>⟨i.1,by obtain⟨aa,O,rfl⟩:=i.2;exact⟨h,d,rfl⟩⟩) (λg c h d i=>oP i h d) (λh d=>qw (λe s c i=>⟨i.1,i.2.1,h,d,i.2.2⟩) _<|p _ (w.re h d) rfl) ?_;rintro g c⟨W,h,O,rfl⟩;refine⟨t,?_,?_⟩;.rw[l g W];exactλcs=>(m cs).re h O
 intro v H h2 q d2;rw[hd];refine qw ?_ _<|j _ g v (H.re q d2) W ⟨H,h2⟩;rintro ex s w3⟨rfl,hB,rfl⟩;exact⟨rfl,oP (hk v H s h2 hB) q d2⟩
def um{w w':J}(h:w'.heap=w.heap){a:Addr}(b:w.cell? a=L n):w'.cell? a=L n:=by unfold aQ at*;rw[h];exact b
def Gm{nb:Nat}{fb:Nat->Int}{a b c:Int}{nl:Nat}{ts:Nat->iP}(d:lh nb fb a b c=Z)(f:logAt nl ts=V):jg ⟨⟨nb,fb,nl,ts⟩,a.toNat,b.toNat,c.toNat⟩:=by have g:=d;simp only[lh,aA,within_iff]at g;exact⟨Og d f,show 1<=a.toNat/\a.toNat<=8 by omega,show 1<=b.toNat/\b.toNat<=8 by omega,show 1<=c.toNat/\c.toNat<=4 by omega⟩
end
end Go.Proofs.YtldeiiffabfmeaaGreatDoor
namespace Go.Rel
section
open Go.Conc Go.ConcN
variable{ok:iO}{ρ ρ':iI}{P:bd}
def isRow(W:J)(b:Nat):Bool:=match W.heap[b]? with|L (.cells ..)=>Z|_=>ae
mutual def clean(W:J):Y->Y|Q b=>Q b|U k n=>U k n|aU s=>aU s|u V=>u V|A V n c=>A V n c|aH V=>aH V|aV=>aV|u (L a)=>if isRow W a.block then u (L a)else aE|A (L a) n c=>if isRow W a.block then A (L a) n c else if n=0/\c=0 then A (L vi) 0 0 else aE|aj ⟨x⟩=>aj ⟨sJ W x⟩|aD ⟨x⟩=>aD ⟨sJ W x⟩|_=>aE def sJ(W:J):List Y->List Y|[]=>[]|v::vs=>clean W v::sJ W vs end
def Ku(W:J)(l:List Y):sJ W l=l.map (clean W):=by induction l with|nil=>simp[sJ]|cons v b a=>simp[sJ,a]
def vx(W:J):iI:=λb a=>b=a/\isRow W b=Z
mutual theorem Ze(W:J):∀v:Y,iH ok (vx W) (clean W v) v|Q b=>by rw[clean];exact .bool b|U k n=>by rw[clean];exact .int k n|aU s=>by rw[clean];exact .string s|u V=>by rw[clean];exact .od|A V n c=>by rw[clean];exact .mz n c|aH V=>by rw[clean];exact .oy|aV=>by rw[clean];exact .nilIface|u (L a)=>by rw[clean];split;(.exact .ptr ⟨⟨rfl,by assumption⟩,rfl,rfl⟩);.exact .jP trivial|A (L a) n c=>by rw[clean];split;(.exact .slice ⟨⟨rfl,by assumption⟩,rfl,rfl⟩ n c);.split;(.obtain⟨rfl,rfl⟩:=‹n=0/\c=0›;exact .dead _);.exact .jP trivial|aj ⟨x⟩=>by rw[clean];exact .agg<|CL W x|aD ⟨x⟩=>by rw[clean];exact .tuple<|CL W x|aH (L _)=>by rw[clean.eq_def];exact .jP trivial|.chan _=>by rw[clean.eq_def];exact .jP trivial|.func _ _ _=>by rw[clean.eq_def];exact .jP trivial|.iface _ _=>by rw[clean.eq_def];exact .jP trivial|.float _ _=>by rw[clean.eq_def];exact .jP trivial|.complex _ _ _=>by rw[clean.eq_def];exact .jP trivial|aE=>by rw[clean.eq_def];exact .jP trivial theorem CL(W:J):∀v:List Y,jf ok (vx W) (sJ W v) v|[]=>by rw[sJ];exact .nil|v::vs=>by rw[sJ];exact .cons (Ze W v)<|CL W vs end
mutual theorem Xq(W:J):∀v:Y,iH ok (vx W) (clean W v)<|clean W v|Q b=>by rw[clean];exact .bool b|U k n=>by rw[clean];exact .int k n|aU s=>by rw[clean];exact .string s|u V=>by rw[clean];exact .od|A V n c=>by rw[clean];exact .mz n c|aH V=>by rw[clean];exact .oy|aV=>by rw[clean];exact .nilIface|u (L a)=>by rw[clean];split;(.exact .ptr ⟨⟨rfl,by assumption⟩,rfl,rfl⟩);.exact .jP trivial|A (L a) n c=>by rw[clean];split;(.exact .slice ⟨⟨rfl,by assumption⟩,rfl,rfl⟩ n c);.split;(.obtain⟨rfl,rfl⟩:=‹n=0/\c=0›;exact .dead _);.exact .jP trivial|aj ⟨x⟩=>by rw[clean];exact .agg<|GV W x|aD ⟨x⟩=>by rw[clean];exact .tuple<|GV W x|aH (L _)=>by rw[clean.eq_def];exact .jP trivial|.chan _=>by rw[clean.eq_def];exact .jP trivial|.func _ _ _=>by rw[clean.eq_def];exact .jP trivial|.iface _ _=>by rw[clean.eq_def];exact .jP trivial|.float _ _=>by rw[clean.eq_def];exact .jP trivial|.complex _ _ _=>by rw[clean.eq_def];exact .jP trivial|aE=>by rw[clean.eq_def];exact .jP trivial theorem GV(W:J):∀v:List Y,jf ok (vx W) (sJ W v)<|sJ W v|[]=>by rw[sJ];exact .nil|v::vs=>by rw[sJ];exact .cons (Xq W v)<|GV W vs end
def Ha(W:J):Obj->Obj|.cells x t fr=>.cells (x.map<|clean W) t (0,max x.size fr.2+1)|o=>o
def ghost(W:J):J:={W with heap:=W.heap.map<|Ha W}
def Im(W:J)(b:Nat):(ghost W).heap[b]?=(W.heap[b]?).map (Ha W):=by simp[ghost]
def Ec(W:J):(ghost W).heap.size=W.heap.size:=by simp[ghost]
def IS(W:J)(a:Addr):(ghost W).cell? a=(W.cell? a).map (clean W):=by unfold aQ;rw[Im];cases W.heap[a.block]? with|none=>rfl|some o=>cases o with|cells x t fr=>simp only[bC,Ha];grind|_=>rfl
def Yp(W:J):(vx W).jv ok:=by
 refine⟨?_,?_,?_⟩;.rintro a b d⟨rfl,_⟩⟨rfl,_⟩;rfl
 .rintro a c b⟨rfl,_⟩⟨rfl,_⟩;rfl
 .rintro a b⟨rfl,_⟩_;rfl
def Lg{W:J}{b:Nat}(h:isRow W b=Z):∃x t fr,W.heap[b]?=L (.cells x t fr):=by unfold isRow at h;grind
def aae{W:J}(c:ok.old=⟨W.heap,W.os,W.output⟩)(a:ok.gs<=W.heap.size)(d:¬ok.kU):jz ok (vx W) (ghost W) W:=by refine⟨Yp W,⟨by rw[Ec];exact a,a⟩,λh=>absurd h d,?_,by grind⟩;rintro b j⟨rfl,g⟩;obtain⟨x,t,fr,e⟩:=Lg g;refine⟨_,_,by rw[Im,e];rfl,e,.cells ?_ t ⟨λi k f=>⟨Nat.zero_le _,Nat.lt_succ_of_lt<|ax f<|Nat.le_max_right ..⟩,λe=>by simp at e⟩⟩;have:=CL (ok:=ok) W x.toList;rw[Ku]at this;unfold iV;simpa using this
def acE{W:J}{b:Nat}(h:vx W b v):kC (ghost W) b:=by obtain⟨rfl,a⟩:=h;obtain⟨x,t,fr,e⟩:=Lg a;exact⟨_,t,_,by rw[Im,e];rfl,by grind⟩
end
section
open Go.Conc Go.ConcN
def afg{ok:iO}{P:bd}{W:J}(c:ok.old=⟨W.heap,W.os,W.output⟩)(d:ok.gs<=W.heap.size)(f:¬ok.kU)(i:∀g,g<ok.gs->isRow W g=Z)(a:Array Y):BY ok P (a.map<|clean W) a (ghost W) W:=by
 have e:oV ok<|vx W:=λ_ g h=>⟨rfl,i g h⟩;have r1:iV ok (vx W) (a.map<|clean W) a:=by have:=CL (ok:=ok) W a.toList;rw[Ku]at this;unfold iV;simpa using this
 exact⟨c,⟨vx W,r1,aae c d f,e,λb j h=>acE h⟩⟩
end
end Go.Rel
namespace Go.Proofs.YtldeiiffabfmeaaGreatDoor
section
open Go.RowKit Go.Maps Go.Rel
def WJ(W:J):∀v∈rl,clean W v=aE:=by intro v a;simp only[rl]at a;simp only[List.mem_toArray,bD,List.not_mem_nil,or_false]at a;rcases a with rfl|rfl|rfl|rfl|rfl|rfl|rfl|rfl|rfl|rfl|rfl<;>rw[clean.eq_def]
def Ik{W:J}{t0:ai}{fr:Nat×Nat}(h:W.heap[0]?=L (.cells rl t0 fr)):Zero<|ghost W:=by intro o v a;rw[IS]at a;unfold aQ at a;rw[h]at a;cases hs:rl[o]? with|none=>simp[hs]at a|some b=>simp[hs]at a;rw[<-a];exact WJ W b<|Array.mem_of_getElem? hs
def GR{W:J}{o:Obj}(h:W.heap[0]?=L o):0<(ghost W).heap.size:=by rw[Ec];exact(bE.1 h).1
def Ic{W:J}{t0:ai}{fr:Nat×Nat}(h:W.heap[0]?=L (.cells rl t0 fr))(a:Array Y):BY (jb ⟨W.heap,W.os,W.output⟩) X (a.map<|clean W) a (ghost W) W:=afg rfl (by show 1<=W.heap.size;have:=(bE.1 h).1;omega) (λh=>h) (λg b=>by(have:g=0:=by have:g<1:=b;omega);subst this;unfold isRow;rw[h]) a
end
end Go.Proofs.YtldeiiffabfmeaaGreatDoor
namespace Go.Proofs.YtldeiiffabfmeaaGreatDoor.Kp
section
open Go.RowKit Go.Rel Go.Proofs.YtldeiiffabfmeaaGreatDoor
section
variable{H:Type}
def O7(d:ak H):1<=T d:=by cases d with|lit l=>cases l<;>simp[T]|_=>simp[T]
def Em{k:Nat}:∀{l:List<|ak H},(∀d,d∈l->k<=T d)->l.length*k<=aI l|[],_=>by simp|d::l,h=>by have a:=h d (by simp);have b:=Em (l:=l) λd hd=>h d (by simp[hd]);simp only[aI,bF,Nat.succ_mul];omega
def Co{d:ak H}:∀{l:List<|ak H},d∈l->T d<=aI l|[],h=>by simp at h|x::l,h=>by simp only[aI];rcases bD.1 h with rfl|h;(.omega);.have:=Co h;omega
def KU(l s:List<|ak H):aI l+1<=T (.slice l s):=by simp only[T];omega
def IX(l:List<|ak H):aI l+1=T (.agg l):=by simp only[T]
end
section
variable{H:Type}{enc:ai×Y->H}{w:J}{base:Nat}{held:Bool}
def CR(t:iP):Prop:=∀j,j<t.nc*4->(au S<|t.c j).wf=Z
def yE(enc:ai×Y->H)(w:J)(base:Nat)(held:Bool)(e k:Nat):Prop:=∀(n:Nat)(a:List Y)(x:ak H×List ar),ah enc X w base (λ_=>Z) held n e a=L x->a.length=k/\∀j,j<k->∃z,a[j]?=L (U S z)/\(au S z).wf=Z
def C2:Tryz.prog.cellsOf 3=1:=by kernel_rfl
def Kz:Tryz.prog.cellsOf 159=2:=by kernel_rfl
def MP:Tryz.prog.cellsOf 161=4:=by kernel_rfl
def Nc:Tryz.prog.cellsOf 81=2:=by kernel_rfl
def Mx:Tryz.prog.cellsOf 91=4:=by kernel_rfl
def PH:Tryz.prog.cellsOf 22=1:=by kernel_rfl
def aeK:Tryz.prog.cellsOf 86=1:=by kernel_rfl
def QU:Tryz.prog.cellsOf 87=1:=by kernel_rfl
def Y6:Tryz.prog.cellsOf 24=4:=by kernel_rfl
def T0:Tryz.prog.cellsOf 25=1:=by kernel_rfl
def adF:Tryz.prog.cellsOf 26=1:=by kernel_rfl
def WA:Tryz.prog.cellsOf 42=6:=by kernel_rfl
def FJ:yE enc w base held 3 1:=by intro n a x h;obtain⟨z,rfl,_,b⟩:=bG bh h;grind
def ue{n:Nat}{x:Option<|ak H×List ar}{y:ak H×List ar}(h:ah enc X w base (λ_=>Z) held n 3 ((r.drop v).take<|Tryz.prog.cellsOf 3)=x)(c:x=L y):∃z,r[v]?=L (U S z)/\(au S z).wf=Z:=by
 rw[c,C2]at h;obtain⟨z,a,_,b⟩:=bG bh h;refine⟨z,?_,b⟩;have d:((r.drop v).take 1)[0]?=L (U S z):=by rw[a];rfl
 grind
def PG{t:Nat}{b a:Field}(m:Tryz.prog.underlying t=L (.struct #[b,a]))(o:Tryz.prog.cellsOf t=2)(e0:b.type=3/\b.offset=0)(e1:a.type=3/\a.offset=1):yE enc w base held t 2:=by
 intro n p x h;obtain⟨l,k,_,_,g,d,e⟩:=aJ m h;refine⟨g.trans o,λj q=>?_⟩;have f:∀i,i<2->∃y,l[i]?=L y:=λi hi=>⟨_,aK<|by grind⟩;have:j=0\/j=1:=by omega
 rcases this with rfl|rfl;.obtain⟨y,c⟩:=f 0 (by omega);have:=e 0 b rfl;rw[e0.1,e0.2]at this;exact ue this c
 .obtain⟨y,c⟩:=f 1 (by omega);have:=e 1 a rfl;rw[e1.1,e1.2]at this;exact ue this c
def YV:yE enc w base held 159 2:=PG Tryz.underlying159 Kz ⟨rfl,rfl⟩ ⟨rfl,rfl⟩
def TK:yE enc w base held 81 2:=PG Tryz.underlying81 Nc ⟨rfl,rfl⟩ ⟨rfl,rfl⟩
def abG:yE enc w base held 161 4:=by
 intro n g x h;obtain⟨f,k,_,_,e,d,c⟩:=aJ Tryz.underlying161 h;refine⟨e.trans MP,λj l=>?_⟩;have b:∀i,i<4->∃y,f[i]?=L y:=λi hi=>⟨_,aK<|by grind⟩;have:j=0\/j=1\/j=2\/j=3:=by omega
 rcases this with rfl|rfl|rfl|rfl;.obtain⟨y,a⟩:=b 0 (by omega);exact ue (c 0 _ rfl) a
 .obtain⟨y,a⟩:=b 1 (by omega);exact ue (c 1 _ rfl) a
 .obtain⟨y,a⟩:=b 2 (by omega);exact ue (c 2 _ rfl) a
 .obtain⟨y,a⟩:=b 3 (by omega);exact ue (c 3 _ rfl) a
def HV(w:J)(v:Y):Prop:=∀a n c,v=A (L a) n c->isRow w a.block=Z\/(n=0/\c=0)
def acU{w:J}{a:Addr}(h:w.cell? a=L n):isRow w a.block=Z:=by unfold aQ at h;unfold isRow;grind
def Ot{t e:Nat}{x:ak H×List ar}(s:Tryz.prog.underlying t=L (.slice e))(g:0<Tryz.prog.cellsOf e)(h:ah enc X w base (λ_=>Z) held v t [o]=L x):HV w o:=by
 intro d n c r;rcases bj s h with⟨b,_⟩|⟨a,len,cap,m,F,D,C,b,_,E,_,k,_,y⟩;.grind
 .simp at b;rw[r]at b;injection b with b i B;injection b with b;subst b i B;simp only[if_true]at k;subst k;rcases bl m with l|l;(.omega);.obtain⟨f,i,_⟩:=y 0 l;obtain⟨_,j,q⟩:=bm i;obtain⟨p,z⟩:∃p,f[0]?=L p:=⟨_,aK<|by omega⟩;have:=(q 0 g).trans z;have G:=acU this;left;(have e:∀d:Addr,((d.add<|0*Tryz.prog.cellsOf e).add 0).block=d.block:=λd=>by simp[Addr.add]);grind
def SK{k n:Nat}{f:Nat->Int}(h:iQ w o k n f)(r:HV w o):iQ (ghost w) (clean w o) k n f:=by obtain⟨a,cap,rfl,l,q⟩:=h;cases a with|none=>exact⟨V,cap,by rw[clean],l,λm=>by grind⟩|some g=>by_cases c:isRow w g.block=Z;(.refine⟨L g,cap,by rw[clean,if_pos c],l,λm=>?_⟩;obtain⟨b,off,e,i,d⟩:=q m;exact⟨b,off,e,by rw[Ec];exact i,λj p=>by rw[IS,d j p];simp only[bC];rw[clean]⟩);.obtain⟨rfl,rfl⟩:=(r g n cap rfl).resolve_left c;exact⟨L vi,0,by rw[clean,if_neg c,if_pos ⟨rfl,rfl⟩],by omega,λh=>by omega⟩
def J2(w:J)(v:Y)(n:Nat)(ts:Nat->iP):Prop:=∃a cap,v=A a n cap/\n<=1048577/\(0<n->∃b off,a=L ⟨b,off,V⟩/\b<w.heap.size/\∃c:Nat->Y,(∀j,j<n*4->w.cell? ⟨b,off+j,V⟩=L (c j))/\∀i,i<n->lE (ghost w) (clean w<|c<|i*4) (clean w<|c<|i*4+1) (clean w<|c<|i*4+2) (clean w<|c<|i*4+3) (ts i))
def agB{n:Nat}{ts:Nat->iP}(h:J2 w o n ts)(m:HV w o):lI (ghost w) (clean w o) n ts:=by obtain⟨a,cap,rfl,i,q⟩:=h;cases a with|none=>exact⟨V,cap,by rw[clean],i,λk=>by grind⟩|some f=>by_cases c:isRow w f.block=Z;(.refine⟨L f,cap,by rw[clean,if_pos c],i,λk=>?_⟩;obtain⟨b,off,e,g,p,d,r⟩:=q k;exact⟨b,off,e,by rw[Ec];exact g,λj=>clean w<|p j,λj l=>by rw[IS,d j l];rfl,r⟩);.obtain⟨rfl,rfl⟩:=(m f n cap rfl).resolve_left c;exact⟨L vi,0,by rw[clean,if_neg c,if_pos ⟨rfl,rfl⟩],by omega,λh=>by omega⟩
def abF{t e k:Nat}{x:ak H×List ar}(P:Tryz.prog.underlying t=L (.slice e))(hk:Tryz.prog.cellsOf e=k)(s:0<k)(hi:yE enc w base held e k)(h:ah enc X w base (λ_=>Z) held v t r=L x)(hB:T x.1<=1048576):∃O n f,r=[O]/\iQ w O k n f/\n<=1048576/\∀j,j<n*k->(au S<|f j).wf=Z:=by
 rcases bj P h with⟨rfl,rfl⟩|⟨a,len,cap,m,n,D,Pl,rfl,_,hl,_,hm,rfl,N⟩;.exact⟨_,0,λ_=>0,rfl,⟨_,_,rfl,by omega,λh=>by omega⟩,by omega,λj y=>by omega⟩
 . (have ad:len<=m:=by grind);(have B:len<=1048576:=by have p:=KU ((az len).map D)<|(az<|m-len).map λj=>D (len+j);have K:=Em (l:=(az len).map D) λd _=>O7 d;grind);rw[hk]at N;rcases bl len with F|F;(.subst F;exact⟨_,0,λ_=>0,rfl,⟨_,_,rfl,by omega,λh=>by omega⟩,by omega,λj y=>by omega⟩);. (have g:∀i,i<len->∀q,q<k->∃z,w.cell? ((a.add<|i*k).add q)=L (U S z)/\(au S z).wf=Z:=λi R q hq=>by obtain⟨ac,p,K⟩:=N i (by omega);obtain⟨_,W,aa⟩:=bm p;obtain⟨_,o⟩:=hi _ _ _ K;grind);obtain⟨b,off,E⟩:=a;(have G:E=V:=by obtain⟨z,o,_⟩:=g 0 F 0 s;have p:=bH o;rw[bI]at p;unfold Addr.add at p;grind);subst G;(have c:∀j,j<len*k->∃z,w.cell? ⟨b,off+j,V⟩=L (U S z)/\(au S z).wf=Z:=λj y=>by have C:=Nat.div_lt_of_lt_mul (by rw[aW];exact y);obtain⟨z,p,K⟩:=g (j/k) C (j%k)<|aX _ s;rw[aY,aY,Nat.add_assoc,show j/k*k+j%k=j from by rw[aW];exact Nat.div_add_mod j k]at p;grind);refine⟨_,len,λj=>intOf<|(w.cell? ⟨b,off+j,V⟩).getD I,rfl,⟨_,_,rfl,by omega,λ_=>⟨b,off,rfl,?_,λj y=>?_⟩⟩,B,λj y=>?_⟩;(.obtain⟨z,o,_⟩:=c 0<|Nat.mul_pos F s;exact bn w _ o);(.obtain⟨z,o,_⟩:=c j y;simp only[o,ao,intOf]);.obtain⟨z,o,hw⟩:=c j y;simp only[o,ao,intOf];exact hw
def yi{t e k:Nat}{x:ak H×List ar}(d:Tryz.prog.underlying t=L (.slice e))(hk:Tryz.prog.cellsOf e=k)(b:0<k)(hi:yE enc w base held e k)(h:ah enc X w base (λ_=>Z) held v t r=L x)(m:T x.1<=1048576):∃a n f,r=[a]/\iQ (ghost w) (clean w a) k n f/\n<=1048576/\∀j,j<n*k->(au S<|f j).wf=Z:=by obtain⟨a,n,f,c,l,i,g⟩:=abF d hk b hi h m;exact⟨a,n,f,c,SK l<|Ot d (by omega)<|c▸h,i,g⟩
end
section
variable{H:Type}{enc:ai×Y->H}{w:J}{base:Nat}{held:Bool}
def LM{l:List W}(h:l.length=4):∃a b c d,l=[a,b,c,d]:=by match l,h with|[a,b,c,d],_=>simp
def Zi{l:List W}(h:l.length=3):∃a b c,l=[a,b,c]:=by match l,h with|[a,b,c],_=>simp
def TT{l:List W}(h:l.length=6):∃a b c d e f,l=[a,b,c,d,e,f]:=by match l,h with|[a,b,c,d,e,f],_=>simp
def take_one{q:Nat}(h:(r.drop q).take 1=[n]):r[q]?=L n:=by
 have a:((r.drop q).take 1)[0]?=L n:=by rw[h];rfl
 grind
def afb{n:Nat}{d:ak H}{p:List ar}(h:ah enc X w base (λ_=>Z) held n 91 r=L (d,p))(P:T d<=1048576):5<=T d/\∃g j i c t,r[0]?=L g/\r[1]?=L j/\r[2]?=L i/\r[3]?=L c/\lE (ghost w) (clean w g) (clean w j) (clean w i) (clean w c) t/\CR t:=by
 obtain⟨s,k,_,hd,R,b,o⟩:=aJ Tryz.underlying91 h;simp only[Prod.mk.injEq]at hd;have a:s.length=4:=b;have hb:=IX (s.map (·.1));have K:5<=T d:=by have:=Em (l:=s.map (·.1)) λd _=>O7 d;grind
 refine⟨K,?_⟩;obtain⟨m,q,e,f,rfl⟩:=LM a;have part:∀y,y∈[m,q,e,f]->T y.1<=1048576:=λy F=>by have W:=Co (l:=[m,q,e,f].map (·.1))<|aF.2 ⟨y,F,rfl⟩;grind
 have g0:ah enc X w base (λ_=>Z) held k 22 ((r.drop 0).take<|Tryz.prog.cellsOf 22)=L m:=o 0 _ rfl;have z:ah enc X w base (λ_=>Z) held k 22 ((r.drop 1).take<|Tryz.prog.cellsOf 22)=L q:=o 1 _ rfl;have x:ah enc X w base (λ_=>Z) held k 86 ((r.drop 2).take<|Tryz.prog.cellsOf 86)=L e:=o 2 _ rfl;have v:ah enc X w base (λ_=>Z) held k 87 ((r.drop 3).take<|Tryz.prog.cellsOf 87)=L f:=o 3 _ rfl;rw[PH]at g0 z;rw[aeK]at x;rw[QU]at v;obtain⟨g,n0,D,c0,r0,s0,_⟩:=yi bq C2 (by omega) FJ g0<|part m (by simp);obtain⟨j,n1,E,c1,r1,s1,_⟩:=yi bq C2 (by omega) FJ z<|part q (by simp);obtain⟨i,O,C,c2,r2,s2,_⟩:=yi Tryz.underlying86 Kz (by omega) YV x<|part e (by simp);obtain⟨c,B,N,c3,r3,s3,G⟩:=yi Tryz.underlying87 MP (by omega) abG v<|part f (by simp);exact⟨g,j,i,c,⟨n0,D,n1,E,O,C,B,N⟩,take_one c0,take_one c1,take_one c2,take_one c3,⟨r0,r1,r2,r3⟩,G⟩
def P7{x:ak H×List ar}(h:ah enc X w base (λ_=>Z) held v 25 r=L x)(hB:T x.1<=1048576):∃G n ts,r=[G]/\J2 w G n ts/\n<=250000/\∀i,i<n->CR (ts i):=by
 rcases bj bJ h with⟨rfl,rfl⟩|⟨a,len,cap,m,n,D,Pl,rfl,_,hl,_,hm,rfl,F⟩;.exact⟨_,0,λ_=>⟨0,λ_=>0,0,λ_=>0,0,λ_=>0,0,λ_=>0⟩,rfl,⟨_,_,rfl,by omega,λh=>by omega⟩,by omega,λi hi=>by omega⟩
 . (have O:len<=m:=by grind);have hb:=KU ((az len).map D)<|(az<|m-len).map λj=>D (len+j);(have R:∀i,i<len->T (D i)<=1048576:=λi hi=>by have:=Co (d:=D i)<|aF.2 ⟨i,bK.2 hi,rfl⟩;grind);rw[Mx]at F;(have c:∀i,i<len->5<=T (D i)/\∃e f g k t,w.cell? ((a.add<|i*4).add 0)=L e/\w.cell? ((a.add<|i*4).add 1)=L f/\w.cell? ((a.add<|i*4).add 2)=L g/\w.cell? ((a.add<|i*4).add 3)=L k/\lE (ghost w) (clean w e) (clean w f) (clean w g) (clean w k) t/\CR t:=λi hi=>by obtain⟨K,y,E⟩:=F i (by omega);obtain⟨_,N,W⟩:=bm y;obtain⟨h5,e,f,g,k,t,c0,c1,c2,c3,C,hs⟩:=afb E<|R i hi;grind);(have l:len<=250000:=by(have E:=Em λd hd=>by obtain⟨i,hi,rfl⟩:=aF.1 hd;exact(c i<|bK.1 hi).1);grind);rcases bl len with s|s;(.subst s;exact⟨_,0,λ_=>⟨0,λ_=>0,0,λ_=>0,0,λ_=>0,0,λ_=>0⟩,rfl,⟨_,_,rfl,by omega,λh=>by omega⟩,by omega,λi hi=>by omega⟩);.obtain⟨b,off,o⟩:=a;(have z:o=V:=by obtain⟨_,e,_,_,_,_,P,_⟩:=c 0 s;have y:=bH P;rw[bI]at y;unfold Addr.add at y;grind);subst z;(have B:∀i,∃t:iP,i<len->∃e f g k,w.cell? ⟨b,off+i*4,V⟩=L e/\w.cell? ⟨b,off+(i*4+1),V⟩=L f/\w.cell? ⟨b,off+(i*4+2),V⟩=L g/\w.cell? ⟨b,off+(i*4+3),V⟩=L k/\lE (ghost w) (clean w e) (clean w f) (clean w g) (clean w k) t/\CR t:=λi=>by by_cases hi:i<len;(.obtain⟨_,e,f,g,k,t,c0,c1,c2,c3,C,hs⟩:=c i hi;rw[aY,aY]at c0 c1 c2 c3;exact⟨t,λ_=>⟨e,f,g,k,c0,by omega,by omega,by omega,C,hs⟩⟩);.exact⟨⟨0,λ_=>0,0,λ_=>0,0,λ_=>0,0,λ_=>0⟩,λh=>absurd h hi⟩);obtain⟨ts,p⟩:=Classical.skolem.1 B;refine⟨_,len,ts,rfl,⟨_,_,rfl,by omega,λ_=>⟨b,off,rfl,?_,λj=>(w.cell? ⟨b,off+j,V⟩).getD I,λj hj=>?_,λi hi=>?_⟩⟩,l,λi hi=>?_⟩;(.obtain⟨e,_,_,_,c0,_⟩:=p 0 s;exact bn w _ c0);(. (have q:j/4<len:=by omega);obtain⟨e,f,g,k,c0,c1,c2,c3,_⟩:=p (j/4) q;(have:j=j/4*4\/j=j/4*4+1\/j=j/4*4+2\/j=j/4*4+3:=by omega);grind);(.grind);grind
def JQ{r:Reach}{b0:Nat}{d:ak H}(hv:Value.okWide X w r b0 42 n)(h:bM enc X w base (λ_=>Z) held 42 n d t)(hB:T d<=1048576):∃(nb nl C:Nat)(fb fs:Nat->Int)(ts:Nat->iP)(a b c:Int)(P W vS:Y),n=aj #[P,U S a,U S b,U S c,W,vS]/\iQ (ghost w) (clean w P) 1 nb fb/\lI (ghost w) (clean w W) nl ts/\iQ (ghost w) (clean w vS) 2 C fs/\nb<=1048576/\nl<=250000/\C<=1048576/\(∀i,i<nl->CR (ts i))/\∀j,j<C->(au S<|fs<|2*j+1).wf=Z:=by
 obtain⟨G,rfl,am⟩:=cA bN hv;obtain⟨ad,aa⟩:=h;obtain⟨xs,k,_,hd,hl,q,hf⟩:=aJ bN aa;simp only[Prod.mk.injEq]at hd;have m:=q;have hb:=IX (xs.map (·.1));obtain⟨R,F,E,rfl⟩:=Zi m;have part:∀y,y∈[R,F,E]->T y.1<=1048576:=λy hy=>by have h1:=Co (l:=[R,F,E].map (·.1))<|aF.2 ⟨y,hy,rfl⟩;grind
 have g0:ah enc X w base (λ_=>Z) held k 24 (((aj G).cells.toList.drop 0).take<|Tryz.prog.cellsOf 24)=L R:=hf 0 _ rfl;have D:ah enc X w base (λ_=>Z) held k 25 (((aj G).cells.toList.drop 4).take<|Tryz.prog.cellsOf 25)=L F:=hf 1 _ rfl;have O:ah enc X w base (λ_=>Z) held k 26 (((aj G).cells.toList.drop 5).take<|Tryz.prog.cellsOf 26)=L E:=hf 2 _ rfl;rw[Y6]at g0;rw[T0]at D;rw[adF]at O;have ac:=hl.trans WA;obtain⟨q0,q1,q2,q3,q4,q5,B⟩:=TT ac;have f:(aj G).cells.toList=[q0,q1,q2,q3,q4,q5]:=B;rw[f]at g0 D O;obtain⟨W,nl,ts,cL,rL,sL,N⟩:=P7 D<|part F (by simp);replace rL:=agB rL (Ot bJ (by rw[Mx];omega)<|cL▸D);obtain⟨vS,C,fs,cS,rS,sS,wS⟩:=yi Tryz.underlying26 Nc (by omega) TK O<|part E (by simp);obtain⟨zs,k',_,ap,al,o,e⟩:=aJ Tryz.underlying24 g0;have g:=o;obtain⟨x,z1,z2,z3,rfl⟩:=LM g;have K:T x.1<=1048576:=by have h1:=Co (d:=x.1) (l:=[x,z1,z2,z3].map (·.1)) (by simp);have h2:=IX ([x,z1,z2,z3].map (·.1));grind
 have e0:ah enc X w base (λ_=>Z) held k' 22 ((([q0,q1,q2,q3,q4,q5].drop 0).take 4).drop 0|>.take (Tryz.prog.cellsOf 22))=L x:=e 0 _ rfl;have e1:=e 1 _ rfl;have e2:=e 2 _ rfl;have e3:=e 3 _ rfl;rw[PH]at e0;obtain⟨P,nb,fb,cB,rB,sB,_⟩:=yi bq C2 (by omega) FJ e0 K;obtain⟨a,ha,_⟩:=ue e1 rfl;obtain⟨b,z,_⟩:=ue e2 rfl;obtain⟨c,s,_⟩:=ue e3 rfl;simp at ha z s cB cL cS;subst ha z s cB cL cS;exact⟨nb,nl,C,fb,fs,ts,a,b,c,_,_,_,congrArg aj<|bO B,rB,rL,rS,sB,sL,sS,N,λj hj=>wS _<|by omega⟩
end
def SF{W:J}{m:Nat}{q:List ar}(h:ah (funcToken X) X W 0 (λ_=>Z) Z m 250 [n]=L (.nil,q)):n=aE:=by cases m with|zero=>simp[ah]at h|succ m=>cases n<;>simp[ah,bP]at h⊢
def aaz:Tryz.prog.cellsOf 250=1:=by kernel_rfl
def adu:Tryz.prog.cellsOf 251=11:=by kernel_rfl
def tok(r:List UInt8):List UInt8:=111::([114,100,101,114,108,121,47,99,111,100,101,46,115,116,101,112,115,36]++r)
def NI:List<|ak<|List UInt8:=.nil::[[49],[50],[51],[52],[53],[54],[55],[56],[57],[49,48]].map (λl=>.held<|tok l)
def Nq(W:J)(m:Nat)(v:Y)(x:ak<|List UInt8):Prop:=∃q,ah (funcToken X) X W 0 (λ_=>Z) Z m 250 [v]=L (x,q)
def vG{W:J}{m:Nat}{r:List UInt8}{a:aP}(h:Nq W m n<|.held<|tok r)(b:((az Tryz.prog.funcs.size).filter λf=>(Tryz.prog.funcs[f]?).any (·.name.toUTF8.data.toList==tok r))=[a]):L n=L (.func (.func a) #[] #[]):=let⟨_,h⟩:=h;congrArg L (func_of_trod bP b h)
def all{W:J}{m:Nat}:∀{i:Nat}{v:Y}(hi:i<11),Nq W m v (NI[i]?.getD .nil)->L v=rl.toList[i]?|0,_,_,⟨_,h⟩=>congrArg L (SF h)|1,_,_,h=>vG h (by kernel_rfl)|2,_,_,h=>vG h (by kernel_rfl)|3,_,_,h=>vG h (by kernel_rfl)|4,_,_,h=>vG h (by kernel_rfl)|5,_,_,h=>vG h (by kernel_rfl)|6,_,_,h=>vG h (by kernel_rfl)|7,_,_,h=>vG h (by kernel_rfl)|8,_,_,h=>vG h (by kernel_rfl)|9,_,_,h=>vG h (by kernel_rfl)|10,_,_,h=>vG h (by kernel_rfl)|n+11,_,h,_=>by omega
def abK{W:J}(h:laidMetH X [("orderly/code.steps",bu)] W):W.var? X "orderly/code.steps"=L rl:=by
 obtain⟨g,t,e,a,p,r,o,k,hd⟩:=h.funcs (n:= "orderly/code.steps")<|bQ ..;obtain rfl:=bw ((show(Tryz.prog.globals[0]?).map (·.type)=L 251 by kernel_rfl).symm.trans ((bw<|(show Tryz.prog.globalNamed "orderly/code.steps"=L 0 by kernel_rfl).symm.trans r)▸o));have hd:ah (funcToken X) X W 0 (λ_=>Z) Z a 251 e.toList=L (.agg NI,p):=hd;obtain⟨d,m,_,c,s,b,f⟩:=DataW.trod_array Tryz.underlying251 hd;simp only[Prod.mk.injEq,DataW.agg.injEq]at c;rw[adu]at s;rw[aaz]at f;rw[k];congr 1;refine bO<|List.ext_getElem? λi=>?_;by_cases hi:i<11;.have q:=aK (l:=e.toList) (i:=i) (by omega);have j:=aK (l:=d) (i:=i) (by omega);have:=f i hi;rw[j,bR,List.drop_eq_getElem_cons<|by omega]at this;rw[q];refine all (W:=W) (m:=m) hi ⟨(d[i]'(by omega)).2,?_⟩;rw[c.1,bT,j];exact this
 .rw[bU<|by omega,bU<|by show 11<=i;omega]
def IM{W:J}(h:laidMetH X [("orderly/code.steps",bu)] W)(b:W.ShapedOpen X):∃t0,W.heap[0]?=L (.cells rl t0)/\oj ⟨W.heap,W.os,W.output⟩ t0:=by
 have a:=abK h;obtain⟨e,_⟩:=b;have d:((((begin X (λ_ _=>0) default).world).heap[0]?).bind Obj.row?).isSome=Z:=by kernel_rfl
 obtain⟨⟨zero,t⟩,d⟩:=bV.1 d;obtain⟨f,c,_⟩:=e 0 zero t (by exact of_decide_eq_true<|by kernel_rfl) d;have:f=rl:=by unfold World.var? at a;rw[show Tryz.prog.globalNamed "orderly/code.steps"=L 0 by kernel_rfl]at a;simp only[Option.bind_some,c]at a;exact bw a
 subst this;exact⟨t,c,_,c,by simp⟩
section
variable{H:Type}{enc:ai×Y->H}{w:J}{base:Nat}{held:Bool}
def JV:Tryz.prog.cellsOf 49=3:=by kernel_rfl
def Ye:yE enc w base held 49 3:=by
 intro n g x h;obtain⟨f,k,_,_,e,b,d⟩:=aJ Tryz.underlying49 h;refine⟨e.trans JV,λj l=>?_⟩;have c:∀i,i<3->∃y,f[i]?=L y:=λi hi=>⟨_,aK<|by simp at b;omega⟩;have:j=0\/j=1\/j=2:=by omega
 rcases this with rfl|rfl|rfl;.obtain⟨y,a⟩:=c 0 (by omega);exact ue (d 0 _ rfl) a
 .obtain⟨y,a⟩:=c 1 (by omega);exact ue (d 1 _ rfl) a
 .obtain⟨y,a⟩:=c 2 (by omega);exact ue (d 2 _ rfl) a
def Er{d:ak H}(h:bM enc X w base (λ_=>Z) held 43 o d t)(i:∃a n c,o=A a n c)(l:T d<=1048576):∃n f,iQ (ghost w) (clean w o) 3 n f/\∀j,j<n*3->ji (f j):=by obtain⟨b,m⟩:=h;obtain⟨a,n,c,rfl⟩:=i;obtain⟨s,q,f,e,g,r,k⟩:=yi (x:=(d,t)) Tryz.underlying43 JV (by omega) Ye m l;simp[Value.cells]at e;subst e;exact⟨q,f,g,k⟩
end
def Gp(W:J)(f e d:Y)(a b c:Int):clean W (aj #[f,U S a,U S b,U S c,e,d])=aj #[clean W f,U S a,U S b,U S c,clean W e,clean W d]:=by rw[clean];simp only[sJ];rw[show clean W (U S a)=U S a by rw[clean],show clean W (U S b)=U S b by rw[clean],show clean W (U S c)=U S c by rw[clean]]
end
section
open Go.RowKit Go.Rel Go.Conc Go.ChangeShapes Go.WideShapes Go.ChangeAt Go.Proofs.YtldeiiffabfmeaaGreatDoor
def F7:ownKnob Tryz.prog.godebug=V:=by kernel_rfl
def xf:laidOutB X=Z:=by kernel_rfl
def IT:Tryz.prog.readableRec 42=Z:=by kernel_rfl
def Eb:Tryz.prog.readableRec 43=Z:=by kernel_rfl
def Hh:42<Tryz.prog.types.size:=of_decide_eq_true<|by kernel_rfl
def Eo:43<Tryz.prog.types.size:=of_decide_eq_true<|by kernel_rfl
def zt(W a:J):Prop:=(a.os=W.os/\a.output=W.output)/\∀b,b<W.heap.size->a.heap[b]?=W.heap[b]?
def zt.same{W:J}(h:zt W j){p:ar}(a:p.block<W.heap.size):W.sameAt j p:=by cases p with|cell b o=>exact aZ<|h.2 b a|map b=>exact h.2 b a
def zt.frame{W:J}(h:zt W j)(a:ar->Prop):W.keptBut j a:=by refine⟨h.1.1,h.1.2,λi hi=>?_⟩;rw[h.2 i hi];grind
def JA{p:Pinned}{s:OpenSpec}{c:bz}(f:aP)(fn:Func)(hn:c.program=p.name)(hs:c.sum=p.sum)(aw:c.spec=s.name)(a:c.start=.entering)(e:c.outside=[])(P:c.inits=[])(W:c.under=V)(R:c.initsInPlace=[]/\c.initsUnfollowed=ae/\c.initsRecurse=ae/\c.initsNamed=[]/\c.initsPassed=[])(B:c.noBlocks=ae)(a4:c.leaving=Z)(j:c.followed=V)(G:c.narrowed=s.cond.isSome)(i:c.still=ae)(a7:p.checked.prog.funcNamed c.func=L f)(hf:p.checked.prog.funcs[f]?=L fn)(d:joinedFacts p.checked.prog f fn s.bare c=Z)(o:fn.isInstance p.checked.prog c.origin c.targs)(m:fn.isWrapper p.checked.prog c.wrapper c.mainSum)(h:∀os:Os,os.Started->∀(H:Type)(b:ai×Y->H),∀F:Stop.Interp,ReturnsInLeavingWide c.assume p.checked os f .any (c.pre b p.checked.prog fn s) ((s.at F).post b p.checked.prog fn c.apart c.fresh c.handsOn c.again)):c.holds p s:=by
 simp only[joinedFacts,aA,beq_iff_eq,Array.all_eq_true_iff_forall_mem,List.all_eq_true,decide_eq_true_eq]at d;obtain⟨⟨⟨⟨⟨⟨⟨⟨⟨⟨⟨⟨⟨⟨⟨⟨⟨⟨⟨⟨⟨⟨⟨⟨⟨⟨⟨⟨⟨⟨⟨y1,y2⟩,y3⟩,y4⟩,y5⟩,y6⟩,y7⟩,y8⟩,y9⟩,aB⟩,K⟩,aL⟩,O⟩,aT⟩,al⟩,N⟩,aO⟩,aa⟩,a2⟩,ac⟩,aC⟩,a0⟩,ad⟩,C⟩,a6⟩,x⟩,am⟩,aS⟩,ap⟩,a3⟩,aR⟩,a5⟩:=d;have D:∀os:Os,Stop.quiet p.checked.prog os:=λos k hk=>by rw[y9]at hk;cases hk
 have fits:c.startFits p.checked.prog:=by unfold OpenClaim.startFits;rw[a];exact x
 have E:c.startTold p.checked.prog:=by unfold OpenClaim.startTold;rw[a];exact⟨P,W,R⟩
 have l:namedTie p.checked.prog c.namedList s.vars=Z:=by unfold OpenClaim.namedList;rw[j];exact y5
 have t:p.checked.prog.envWorded=Z:=by unfold Program.envWorded;rw[y9];rfl
 have g:∃os:Os,c.world os/\Stop.quiet p.checked.prog os:=⟨_,by unfold OpenClaim.world;rw[e,a];exact WideRow.started_initial,D _⟩;have r:c.lists p.checked.prog []:=by unfold OpenClaim.lists;rw[j]
 have q:∀os:Os,c.world os->∀(H:Type)(b:ai×Y->H),c.form p.checked os f [] (c.pre b p.checked.prog fn s) (λF w y v w'=>s.post b p.checked.prog fn F c.outside c.apart c.fresh c.handsOn c.again w y v w'/\c.nothingLetGo w w'):=by intro os z H b;(have st:os.Started:=by unfold OpenClaim.world at z;rw[e,a]at z;exact z);rw[OpenClaim.post_not_still i];unfold OpenClaim.form;rw[a,y6];intro F;(have hI:c.okInput=Input.okWide:=by unfold OpenClaim.okInput;rw[B]);(have hR:c.atReturn p.checked.prog=leavingAtReturn p.checked.prog:=by unfold OpenClaim.atReturn;rw[a4]);(have hA:c.always p.checked.prog []=nothingAlways:=by unfold OpenClaim.always;rw[j]);(have hP:s.post b p.checked.prog fn F c.outside c.apart c.fresh c.handsOn c.again=(s.at F).post b p.checked.prog fn c.apart c.fresh c.handsOn c.again:=by rw[e];rfl);have:=h os st H b F x;rw[hI,hR,hA];show ReturnsInOpen _ _ _ _ _ _ _ _ (s.post b p.checked.prog fn F c.outside c.apart c.fresh c.handsOn c.again) _ _;rw[hP];exact this
 exact⟨y1,hn,hs,aw,y2,y3,fits,E,f,fn,a7,hf,⟨y4,ac⟩,(λhb=>by rw[B]at hb;cases hb),l,o,m,y6.trans y7.symm,⟨y8.trans y9.symm,t,a6⟩,aB,K,aL,O,aT,⟨al,aR,a5⟩,⟨N,aC⟩,⟨aO,a0,ap,a3⟩,⟨ad,am,aS,aa⟩,(by rw[e,G];cases a1:c.shortTexts with|none=>simp|some _=>rw[a1]at C;cases C),λn av=>varReadable_some<|a2 n av,g,[],r,λos z _ H b _=>q os z H b⟩
def Jd{p:Pinned}{s:OpenSpec}{c:bz}(d:List LaidKind)(a:Bool)(b:Bool×String)(lk:Bool)(o:c.holds p s)(v:c.wfByText s=Z)(e:c.laidByTextAt .later p d a)(i:c.start=.entering)(g:c.noBlocks=ae/\c.again=ae)(k:p.checked.prog.mainIs=L (b.1,b.2.toList))(n:(!b.1&&b.2.isEmpty&&!lk)=ae)(l:∀f fn,p.checked.prog.funcNamed c.func=L f->p.checked.prog.funcs[f]?=L fn->lk=p.checked.prog.looks []/\∀(j:Nat)t,fn.params[j]?=L t->p.checked.prog.wantsStandIn t=ae)(q:Z=c.goesBy p.checked.prog):Claim7.holds p (.plain s) {stood:={row:=c,standIns:=[],harness:=b,looks:=lk},kinds:=[],alts:=[],goes:=Z,laidByText:=Z,laidKinds:=d,laidTests:=a,laidLooks:=.later}:=by
 have m:∀r:bz,Claim7.isSixth {stood:={row:=r,standIns:=[],harness:=b,looks:=lk},kinds:=[]}=ae:=λr=>by simpa[Claim7.isSixth]using n
 exact⟨Claim7.tied_new_at .later d a (Claim7.new_of_sixth o b lk i g k (m c) l) v,(λD w=>by cases w),e,(λh=>by cases h),q⟩
def I5(os:Os)(a:Array Y):laidMetH X [("orderly/code.steps",bu)] ((World.doorLaid X 600 os).forCall (λ_ _=>0) ⟨#[],a,[]⟩).memory:=laidMetH_of_parts3 (fuel:=8) (laidMet_of_run' 8 (by kernel_rfl)<|by kernel_rfl) (by kernel_rfl)<|by kernel_rfl
def xz:Y:=aj #[A V 0 0,U S 0,U S 0,U S 0,A V 0 0,A V 0 0]
end
end Go.Proofs.YtldeiiffabfmeaaGreatDoor.Kp
namespace Go.Proofs.YtldeiiffabfmeaaGreatDoor
section
open Go.RowKit Go.Maps Go.Sort
def Ci(w:J)(a b c d:Int):(Op.equalIn 10000 73 (aj #[U S a,U S b,U S c,U S d])<|aj #[U S a,U S b,U S c,U S d]).run X w=.ok Z w:=by
 obtain⟨i,hi⟩:∃i,Tryz.prog.info? 3=L i:=bV.1 (by kernel_rfl);rw[run_equalIn_array w 9999 _ _ Tryz.underlying73 hi,show Tryz.prog.cellsOf 3=1 by kernel_rfl];have key:∀x:Int,(Op.equalIn 9999 3 (U S x)<|U S x).run X w=.ok Z w:=λx=>by rw[run_equalIn_int w 9998 3 S S x x bh];simp
 have e:∀(l:List Int)(j:Nat)(x:Int),l[j]?=L x->(part 3 (l.map<|U S).toArray<|j*1).run X w=.ok (U S x) w:=λl j x g=>run_part_plain w (by kernel_rfl) (by simp[g]);have p0:=e [a,b,c,d] 0 a rfl;have p1:=e [a,b,c,d] 1 b rfl;have f:=e [a,b,c,d] 2 c rfl;have p3:=e [a,b,c,d] 3 d rfl;simp only[bX,bY]at p0 p1 f p3;simp only[show az 4=[0,1,2,3]from rfl,Op.eqItems,Sem.run_bind,p0,p1,f,p3,key,Result.andThen_ok,Bool.not_true,Bool.false_eq_true,if_false,Sem.run_pure]
def yv{w:J}{base:Nat}{e:ai}{n:Nat}(h:w.ownsRow base e v o n r)(k:0<n):∃g cap,o=A (L ⟨g,0,V⟩) n cap/\g<w.heap.size/\∀j a,r[j]?=L a->w.cell? ⟨g,j,V⟩=L a:=by
 rcases h.2 with⟨f,i⟩|⟨g,cap,b,e1,e2,e3,d⟩;.omega
 .refine⟨g,cap,e1,(oI h<|by rw[e1];rfl).2.1,λj a c=>?_⟩;have:=h.cells (by rw[e1];rfl) j a c;cases j with|zero=>simpa[Addr.add]using this|succ j=>simpa[Addr.add]using this
end
section
open Go.RowKit Go.Maps Go.Rel
noncomputable def oU:an:=Tryz.f18.body.getD .skip
def acN:Tryz.f18.body=L oU:=rfl
noncomputable def Jv:an:=iA oU
noncomputable def Gy:an:=iA<|iy oU
noncomputable def Jo:an:=iA<|iy<|iy oU
noncomputable def JB:an:=iA<|iy<|iy<|iy oU
noncomputable def HT:an:=iA<|iA<|iy<|iy<|iy<|iy oU
noncomputable def rL:an:=ja<|iL<|iy<|iA<|iy<|iy<|iy<|iy oU
noncomputable def rZ:an:=iy<|iy<|iy<|iy<|iy oU
def acx:oU=.seq Jv (.seq Gy<|.seq Jo<|.seq JB<|.seq (.seq HT<|.block 0<|.loop rL) rZ):=by kernel_rfl
noncomputable def zO:an:=iA rL
noncomputable def yG:an:=iL<|iA<|iy rL
noncomputable def CP:an:=iy<|iy rL
noncomputable def DH:an:=iA yG
noncomputable def EO:an:=iA<|iy yG
noncomputable def pV:an:=iA<|iy<|iy yG
noncomputable def ES:an:=iy<|iy<|iy yG
def Pf:rL=.seq zO (.seq (.block 1<|.seq DH<|.seq EO<|.seq pV ES) CP):=by kernel_rfl
def acI:pV=aG 10 (jV pV) Z:=by kernel_rfl
def GS:qW .any (jV pV) 25 [25,26]=Z/\qW .text (jV pV) 25 [25,26]=Z/\qW .gc (jV pV) 25 [25,26]=Z:=⟨by kernel_rfl,by kernel_rfl,by kernel_rfl⟩
def aar(m:Bool):uF m (jV pV) 25 [25,26]:=⟨λ_=>sC GS.1,λ_ _=>⟨sC GS.2.1,sC GS.2.2⟩⟩
def Xf:(jV pV)[25]?=L (opAt (opsL pV) 25)/\(jV pV)[26]?=L (opAt (opsL pV) 26)/\(opAt (opsL pV) 25).op=.call ⟨.value<|.func 36,#[.tmp 46,.tmp 52,.tmp 60,.tmp 67],#[57,3,3,3]⟩/\(opAt (opsL pV) 25).guard=V/\(opAt (opsL pV) 25).dst=L 68/\(opAt (opsL pV) 26).op=.assign (.tmp 68)/\(opAt (opsL pV) 26).guard=V/\(opAt (opsL pV) 26).dst=L 10:=⟨by kernel_rfl,by kernel_rfl,by kernel_rfl,by kernel_rfl,by kernel_rfl,by kernel_rfl,by kernel_rfl,by kernel_rfl⟩
def abm(a b:Y):(#[a,b]++Array.replicate (Tryz.f18.ntmps-(#[a,b]:Array Y).size) I)=#[a,b,I,I,I,I,I,I,I,I,I,I,I,I,I,I,I,I,I,I,I,I,I,I,I,I,I,I,I,I,I,I,I,I,I,I,I,I,I,I,I,I,I,I,I,I,I,I,I,I,I,I,I,I,I,I,I,I,I,I,I,I,I,I,I,I,I,I,I,I,I,I,I]:=by kernel_rfl
def aby(h:F.size=73):∃g:Nat->Y,F=#[g 0,g 1,g 2,g 3,g 4,g 5,g 6,g 7,g 8,g 9,g 10,g 11,g 12,g 13,g 14,g 15,g 16,g 17,g 18,g 19,g 20,g 21,g 22,g 23,g 24,g 25,g 26,g 27,g 28,g 29,g 30,g 31,g 32,g 33,g 34,g 35,g 36,g 37,g 38,g 39,g 40,g 41,g 42,g 43,g 44,g 45,g 46,g 47,g 48,g 49,g 50,g 51,g 52,g 53,g 54,g 55,g 56,g 57,g 58,g 59,g 60,g 61,g 62,g 63,g 64,g 65,g 66,g 67,g 68,g 69,g 70,g 71,g 72]/\∀k,F.getD k I=g k:=⟨λk=>F.getD k I,(AN h).trans rfl,λ_=>rfl⟩
def vj(a:Act)(hs:a.tmps.size=73)(hd:a.defers=[]):∃g:Nat->Y,a=⟨#[g 0,g 1,g 2,g 3,g 4,g 5,g 6,g 7,g 8,g 9,g 10,g 11,g 12,g 13,g 14,g 15,g 16,g 17,g 18,g 19,g 20,g 21,g 22,g 23,g 24,g 25,g 26,g 27,g 28,g 29,g 30,g 31,g 32,g 33,g 34,g 35,g 36,g 37,g 38,g 39,g 40,g 41,g 42,g 43,g 44,g 45,g 46,g 47,g 48,g 49,g 50,g 51,g 52,g 53,g 54,g 55,g 56,g 57,g 58,g 59,g 60,g 61,g 62,g 63,g 64,g 65,g 66,g 67,g 68,g 69,g 70,g 71,g 72],[]⟩/\∀k,a.tmps.getD k I=g k:=by obtain⟨d,e⟩:=a;simp only at hs hd;subst hd;obtain⟨g,c,b⟩:=aby hs;exact⟨g,by rw[c],b⟩
def sW(a:Nat)(b i:Nat):Nat:=(b+i*7)%(a*5*a)
section
variable(gg np fi m i:Nat)(hnp:np=1\/np=2\/np=3\/np=4)(w:J)(g:Nat->Y)
def Zc(b:Y):Jv.wp X (λex a c=>ex=M/\a=⟨#[u<|L ⟨gg,0,V⟩,b,I,I,U S 0,I,I,I,I,I,I,I,I,I,I,I,I,I,I,I,I,I,I,I,I,I,I,I,I,I,I,I,I,I,I,I,I,I,I,I,I,I,I,I,I,I,I,I,I,I,I,I,I,I,I,I,I,I,I,I,I,I,I,I,I,I,I,I,I,I,I,I,I],[]⟩/\c=w) ⟨#[u<|L ⟨gg,0,V⟩,b,I,I,I,I,I,I,I,I,I,I,I,I,I,I,I,I,I,I,I,I,I,I,I,I,I,I,I,I,I,I,I,I,I,I,I,I,I,I,I,I,I,I,I,I,I,I,I,I,I,I,I,I,I,I,I,I,I,I,I,I,I,I,I,I,I,I,I,I,I,I,I],[]⟩ w:=by simp only[Jv,oU,aq,ao,iA];go_wp2
include hnp in set_option maxRecDepth 20000 in set_option maxHeartbeats 1000000 in theorem QX(e:Y)(c7:w.cell? ⟨gg,7,V⟩=L (U S (np:Nat))):Gy.wp X (λex a f=>ex=M/\a.tmps.size=73/\a.defers=[]/\a.tmps.getD 0 I=u (L ⟨gg,0,V⟩)/\a.tmps.getD 1 I=e/\a.tmps.getD 5 I=U S ((np*5*np:Nat):Int)/\iD (λ_=>True) w f) ⟨#[u<|L ⟨gg,0,V⟩,e,I,I,U S 0,I,I,I,I,I,I,I,I,I,I,I,I,I,I,I,I,I,I,I,I,I,I,I,I,I,I,I,I,I,I,I,I,I,I,I,I,I,I,I,I,I,I,I,I,I,I,I,I,I,I,I,I,I,I,I,I,I,I,I,I,I,I,I,I,I,I,I,I],[]⟩ w:=by simp only[Gy,oU,aq,ao,iA,iy];rcases hnp with rfl|rfl|rfl|rfl;all_goals have f7:=cell_regrown c7;refine wp_region_quiet_below (by kernel_rfl) (by kernel_rfl) ?_;(repeat(go_big_quiet_step(fail)));refine wpQuiet_nil ?_;intro _ c;obtain⟨⟨h,d⟩,b⟩:=c;subst b;exact⟨rfl,rfl,rfl,rfl,rfl,rfl,iD.jF<|below_regrown w h d⟩
def abJ(b d c:Y):Jo.wp X (λex a e=>ex=M/\a=⟨#[b,d,g 2,g 3,g 4,c,U S 0,g 7,g 8,g 9,g 10,g 11,g 12,g 13,g 14,g 15,g 16,g 17,g 18,g 19,g 20,g 21,g 22,g 23,g 24,g 25,g 26,g 27,g 28,g 29,g 30,g 31,g 32,g 33,g 34,g 35,g 36,g 37,g 38,g 39,g 40,g 41,g 42,g 43,g 44,g 45,g 46,g 47,g 48,g 49,g 50,g 51,g 52,g 53,g 54,g 55,g 56,g 57,g 58,g 59,g 60,g 61,g 62,g 63,g 64,g 65,g 66,g 67,g 68,g 69,g 70,g 71,g 72],[]⟩/\e=w) ⟨#[b,d,g 2,g 3,g 4,c,g 6,g 7,g 8,g 9,g 10,g 11,g 12,g 13,g 14,g 15,g 16,g 17,g 18,g 19,g 20,g 21,g 22,g 23,g 24,g 25,g 26,g 27,g 28,g 29,g 30,g 31,g 32,g 33,g 34,g 35,g 36,g 37,g 38,g 39,g 40,g 41,g 42,g 43,g 44,g 45,g 46,g 47,g 48,g 49,g 50,g 51,g 52,g 53,g 54,g 55,g 56,g 57,g 58,g 59,g 60,g 61,g 62,g 63,g 64,g 65,g 66,g 67,g 68,g 69,g 70,g 71,g 72],[]⟩ w:=by simp only[Jo,oU,aq,ao,iA,iy];go_wp2
def abc(d c:Y)(b:Int)(j:ji b)(h:0<np*5*np)(f:np*5*np<=1000):JB.wp X (λex a e=>ex=M/\(a.tmps.size=73/\a.defers=[]/\a.tmps.getD 0 I=d/\a.tmps.getD 5 I=U S ((np*5*np:Nat):Int)/\a.tmps.getD 6 I=c/\a.tmps.getD 7 I=U S (ju b<|np*5*np:Nat))/\e=w) ⟨#[d,U S b,g 2,g 3,g 4,U S ((np*5*np:Nat):Int),c,g 7,g 8,g 9,g 10,g 11,g 12,g 13,g 14,g 15,g 16,g 17,g 18,g 19,g 20,g 21,g 22,g 23,g 24,g 25,g 26,g 27,g 28,g 29,g 30,g 31,g 32,g 33,g 34,g 35,g 36,g 37,g 38,g 39,g 40,g 41,g 42,g 43,g 44,g 45,g 46,g 47,g 48,g 49,g 50,g 51,g 52,g 53,g 54,g 55,g 56,g 57,g 58,g 59,g 60,g 61,g 62,g 63,g 64,g 65,g 66,g 67,g 68,g 69,g 70,g 71,g 72],[]⟩ w:=by simp only[JB,oU,aq,ao,iA,iy];generalize np*5*np=k at*;go_wp2_with fail;refine(D6 b k h f j _).mono ?_;rintro r e⟨rfl,rfl⟩;go_wp2
def acr:HT.wp X (λex a b=>ex=M/\(a.tmps.size=73/\a.defers=[]/\a.tmps.getD 0 I=u (L ⟨gg,0,V⟩)/\a.tmps.getD 5 I=U S ((np*5*np:Nat):Int)/\a.tmps.getD 6 I=U S (m:Nat)/\a.tmps.getD 7 I=U S (fi:Nat)/\a.tmps.getD 8 I=U S ((0:Nat):Int))/\b=w) ⟨#[u<|L ⟨gg,0,V⟩,g 1,g 2,g 3,g 4,U S ((np*5*np:Nat):Int),U S (m:Nat),U S (fi:Nat),g 8,g 9,g 10,g 11,g 12,g 13,g 14,g 15,g 16,g 17,g 18,g 19,g 20,g 21,g 22,g 23,g 24,g 25,g 26,g 27,g 28,g 29,g 30,g 31,g 32,g 33,g 34,g 35,g 36,g 37,g 38,g 39,g 40,g 41,g 42,g 43,g 44,g 45,g 46,g 47,g 48,g 49,g 50,g 51,g 52,g 53,g 54,g 55,g 56,g 57,g 58,g 59,g 60,g 61,g 62,g 63,g 64,g 65,g 66,g 67,g 68,g 69,g 70,g 71,g 72],[]⟩ w:=by simp only[HT,oU,aq,ao,iA,iy];go_wp2
def Vt(hi:i<np*5*np):zO.wp X (λex a b=>ex=M/\(a.tmps.size=73/\a.defers=[]/\a.tmps.getD 0 I=u (L ⟨gg,0,V⟩)/\a.tmps.getD 5 I=U S ((np*5*np:Nat):Int)/\a.tmps.getD 6 I=U S (m:Nat)/\a.tmps.getD 7 I=U S (fi:Nat)/\a.tmps.getD 8 I=U S (i:Nat))/\b=w) ⟨#[u<|L ⟨gg,0,V⟩,g 1,g 2,g 3,g 4,U S ((np*5*np:Nat):Int),U S (m:Nat),U S (fi:Nat),U S (i:Nat),g 9,g 10,g 11,g 12,g 13,g 14,g 15,g 16,g 17,g 18,g 19,g 20,g 21,g 22,g 23,g 24,g 25,g 26,g 27,g 28,g 29,g 30,g 31,g 32,g 33,g 34,g 35,g 36,g 37,g 38,g 39,g 40,g 41,g 42,g 43,g 44,g 45,g 46,g 47,g 48,g 49,g 50,g 51,g 52,g 53,g 54,g 55,g 56,g 57,g 58,g 59,g 60,g 61,g 62,g 63,g 64,g 65,g 66,g 67,g 68,g 69,g 70,g 71,g 72],[]⟩ w:=by
 have i2:(i)<((np*5*np)):=by omega
 simp only[zO,rL,oU,aq,ao,iA,iy,iL,ja];generalize np*5*np=c at*;go_wp2
def R4:zO.wp X (λex a b=>ex=.exit 0/\(a.tmps.size=73/\a.defers=[]/\a.tmps.getD 6 I=U S (m:Nat))/\b=w) ⟨#[u<|L ⟨gg,0,V⟩,g 1,g 2,g 3,g 4,U S ((np*5*np:Nat):Int),U S (m:Nat),U S (fi:Nat),U S ((np*5*np:Nat):Int),g 9,g 10,g 11,g 12,g 13,g 14,g 15,g 16,g 17,g 18,g 19,g 20,g 21,g 22,g 23,g 24,g 25,g 26,g 27,g 28,g 29,g 30,g 31,g 32,g 33,g 34,g 35,g 36,g 37,g 38,g 39,g 40,g 41,g 42,g 43,g 44,g 45,g 46,g 47,g 48,g 49,g 50,g 51,g 52,g 53,g 54,g 55,g 56,g 57,g 58,g 59,g 60,g 61,g 62,g 63,g 64,g 65,g 66,g 67,g 68,g 69,g 70,g 71,g 72],[]⟩ w:=by simp only[zO,rL,oU,aq,ao,iA,iy,iL,ja];generalize np*5*np=c at*;go_wp2
def W9(hi:i<80):CP.wp X (λex a b=>ex=M/\(a.tmps.size=73/\a.defers=[]/\a.tmps.getD 0 I=u (L ⟨gg,0,V⟩)/\a.tmps.getD 5 I=U S ((np*5*np:Nat):Int)/\a.tmps.getD 6 I=U S (m:Nat)/\a.tmps.getD 7 I=U S (fi:Nat)/\a.tmps.getD 8 I=U S ((i+1:Nat):Int))/\b=w) ⟨#[u<|L ⟨gg,0,V⟩,g 1,g 2,g 3,g 4,U S ((np*5*np:Nat):Int),U S (m:Nat),U S (fi:Nat),U S (i:Nat),g 9,g 10,g 11,g 12,g 13,g 14,g 15,g 16,g 17,g 18,g 19,g 20,g 21,g 22,g 23,g 24,g 25,g 26,g 27,g 28,g 29,g 30,g 31,g 32,g 33,g 34,g 35,g 36,g 37,g 38,g 39,g 40,g 41,g 42,g 43,g 44,g 45,g 46,g 47,g 48,g 49,g 50,g 51,g 52,g 53,g 54,g 55,g 56,g 57,g 58,g 59,g 60,g 61,g 62,g 63,g 64,g 65,g 66,g 67,g 68,g 69,g 70,g 71,g 72],[]⟩ w:=by simp only[CP,rL,oU,aq,ao,iA,iy,iL,ja];generalize np*5*np=c at*;go_wp2
def Ya(b:Bool)(d:m<80):ES.wp X (λex a c=>ex=M/\(a.tmps.size=73/\a.defers=[]/\a.tmps.getD 0 I=u (L ⟨gg,0,V⟩)/\a.tmps.getD 5 I=U S ((np*5*np:Nat):Int)/\a.tmps.getD 6 I=U S ((m+(if b then 1 else 0):Nat):Int)/\a.tmps.getD 7 I=U S (fi:Nat)/\a.tmps.getD 8 I=U S (i:Nat))/\c=w) ⟨#[u<|L ⟨gg,0,V⟩,g 1,g 2,g 3,g 4,U S ((np*5*np:Nat):Int),U S (m:Nat),U S (fi:Nat),U S (i:Nat),g 9,Q b,g 11,g 12,g 13,g 14,g 15,g 16,g 17,g 18,g 19,g 20,g 21,g 22,g 23,g 24,g 25,g 26,g 27,g 28,g 29,g 30,g 31,g 32,g 33,g 34,g 35,g 36,g 37,g 38,g 39,g 40,g 41,g 42,g 43,g 44,g 45,g 46,g 47,g 48,g 49,g 50,g 51,g 52,g 53,g 54,g 55,g 56,g 57,g 58,g 59,g 60,g 61,g 62,g 63,g 64,g 65,g 66,g 67,g 68,g 69,g 70,g 71,g 72],[]⟩ w:=by simp only[ES,yG,rL,oU,aq,ao,iA,iy,iL,ja];generalize np*5*np=e at*;cases b<;>go_wp2
def aaf(b:Y):rZ.wp X (λex a c=>ex=ay/\a.tmps.getD 4 I=b/\c=w) ⟨#[g 0,g 1,g 2,g 3,g 4,g 5,b,g 7,g 8,g 9,g 10,g 11,g 12,g 13,g 14,g 15,g 16,g 17,g 18,g 19,g 20,g 21,g 22,g 23,g 24,g 25,g 26,g 27,g 28,g 29,g 30,g 31,g 32,g 33,g 34,g 35,g 36,g 37,g 38,g 39,g 40,g 41,g 42,g 43,g 44,g 45,g 46,g 47,g 48,g 49,g 50,g 51,g 52,g 53,g 54,g 55,g 56,g 57,g 58,g 59,g 60,g 61,g 62,g 63,g 64,g 65,g 66,g 67,g 68,g 69,g 70,g 71,g 72],[]⟩ w:=by simp only[rZ,oU,aq,ao,iy];go_wp2
end
section
variable(gg np fi m i k:Nat)(w:J)(g:Nat->Y)
def QJ(f:0<np*5*np)(d:np*5*np<=80)(h:fi<np*5*np)(hi:i<np*5*np):DH.wp X (λex a b=>ex=M/\((a.tmps.size=73/\a.defers=[]/\a.tmps.getD 0 I=u (L ⟨gg,0,V⟩)/\a.tmps.getD 5 I=U S ((np*5*np:Nat):Int)/\a.tmps.getD 6 I=U S (m:Nat)/\a.tmps.getD 7 I=U S (fi:Nat)/\a.tmps.getD 8 I=U S (i:Nat))/\a.tmps.getD 9 I=U S (sW np fi i:Nat))/\b=w) ⟨#[u<|L ⟨gg,0,V⟩,g 1,g 2,g 3,g 4,U S ((np*5*np:Nat):Int),U S (m:Nat),U S (fi:Nat),U S (i:Nat),g 9,g 10,g 11,g 12,g 13,g 14,g 15,g 16,g 17,g 18,g 19,g 20,g 21,g 22,g 23,g 24,g 25,g 26,g 27,g 28,g 29,g 30,g 31,g 32,g 33,g 34,g 35,g 36,g 37,g 38,g 39,g 40,g 41,g 42,g 43,g 44,g 45,g 46,g 47,g 48,g 49,g 50,g 51,g 52,g 53,g 54,g 55,g 56,g 57,g 58,g 59,g 60,g 61,g 62,g 63,g 64,g 65,g 66,g 67,g 68,g 69,g 70,g 71,g 72],[]⟩ w:=by
 have e:((sW np fi i:Nat):Int)=((fi:Int)+(i:Int)*7)%((np*5*np:Nat):Int):=by unfold sW;rw[bA,cg,Int.natCast_mul];rfl
 rw[e];simp only[DH,yG,rL,oU,aq,ao,iA,iy,iL,ja];clear e;generalize np*5*np=c at*;go_wp2
def TY(b:Nat)(c:b=5\/b=20\/b=45\/b=80)(h e f d j:Y):EO.wp X (λex a l=>ex=M/\(a.tmps.size=73/\a.defers=[]/\a.tmps.getD 0 I=h/\a.tmps.getD 5 I=U S (b:Nat)/\a.tmps.getD 6 I=e/\a.tmps.getD 7 I=f/\a.tmps.getD 8 I=d/\a.tmps.getD 9 I=j)/\l=w) ⟨#[h,g 1,g 2,g 3,g 4,U S (b:Nat),e,f,d,j,g 10,g 11,g 12,g 13,g 14,g 15,g 16,g 17,g 18,g 19,g 20,g 21,g 22,g 23,g 24,g 25,g 26,g 27,g 28,g 29,g 30,g 31,g 32,g 33,g 34,g 35,g 36,g 37,g 38,g 39,g 40,g 41,g 42,g 43,g 44,g 45,g 46,g 47,g 48,g 49,g 50,g 51,g 52,g 53,g 54,g 55,g 56,g 57,g 58,g 59,g 60,g 61,g 62,g 63,g 64,g 65,g 66,g 67,g 68,g 69,g 70,g 71,g 72],[]⟩ w:=by simp only[EO,yG,rL,oU,aq,ao,iA,iy,iL,ja];rcases c with rfl|rfl|rfl|rfl<;>go_wp2
def VM(e:Nat)(p:0<np)(f:np<=4)(hk:k<80)(h l n j:Y)(c0:w.cell? ⟨gg,0,V⟩=L (u<|L ⟨e,0,V⟩))(c7:w.cell? ⟨gg,7,V⟩=L (U S (np:Nat))):(aG 10 ((jV pV).extract 0 25) Z).wp X (λex a q=>ex=M/\(a.tmps.size=73/\a.defers=[]/\a.tmps.getD 0 I=u (L ⟨gg,0,V⟩)/\a.tmps.getD 5 I=h/\a.tmps.getD 6 I=l/\a.tmps.getD 7 I=n/\a.tmps.getD 8 I=j)/\(a.tmps.getD 46 I=u (L ⟨e,0,V⟩)/\a.tmps.getD 52 I=U S ((k%np:Nat):Int)/\a.tmps.getD 60 I=U S ((1+k/np%5:Nat):Int)/\a.tmps.getD 67 I=U S ((k/np/5:Nat):Int))/\iD (λ_=>True) w q) ⟨#[u<|L ⟨gg,0,V⟩,g 1,g 2,g 3,g 4,h,l,n,j,U S (k:Nat),g 10,g 11,g 12,g 13,g 14,g 15,g 16,g 17,g 18,g 19,g 20,g 21,g 22,g 23,g 24,g 25,g 26,g 27,g 28,g 29,g 30,g 31,g 32,g 33,g 34,g 35,g 36,g 37,g 38,g 39,g 40,g 41,g 42,g 43,g 44,g 45,g 46,g 47,g 48,g 49,g 50,g 51,g 52,g 53,g 54,g 55,g 56,g 57,g 58,g 59,g 60,g 61,g 62,g 63,g 64,g 65,g 66,g 67,g 68,g 69,g 70,g 71,g 72],[]⟩ w:=by
 have e1:((k%np:Nat):Int)=(k:Int)%(np:Int):=bA _ _;have e2:((1+k/np%5:Nat):Int)=1+(k:Int)/(np:Int)%5:=by rw[cg,bA,bB];rfl
 have e3:((k/np/5:Nat):Int)=(k:Int)/(np:Int)/5:=by rw[bB,bB];rfl
 have q1:(0:Int)<=(k:Int)/(np:Int):=Int.ediv_nonneg (by omega) (by omega);have q2:(k:Int)/(np:Int)<=(k:Int):=Int.ediv_le_self _ (by omega);rw[e1,e2,e3];clear e1 e2 e3;simp only[jV,pV,yG,rL,oU,aq,ao,iA,iy,iL,ja,List.extract_toArray,List.extract_eq_take_drop,List.take_succ_cons,List.take_zero,List.drop_zero,Nat.sub_zero];have r:=cell_regrown c0;have f7:=cell_regrown c7;clear c0 c7;refine wp_region_quiet_below (by kernel_rfl) (by kernel_rfl) ?_;repeat(go_big_quiet_step(fail))
 refine wpQuiet_nil ?_;intro _ c;obtain⟨⟨o,d⟩,b⟩:=c;subst b;exact⟨rfl,⟨rfl,rfl,rfl,rfl,rfl,rfl,rfl⟩,⟨rfl,rfl,rfl,rfl⟩,iD.jF<|below_regrown w o d⟩
end
def tV(a b i:Nat):Nat×Nat×Nat:=(sW a b i%a,1+sW a b i/a%5,sW a b i/a/5)
def mO(a b:Nat):List<|Nat×Nat×Nat:=(az<|a*5*a).map<|tV a b
def qU(c:iB):List (Nat×Nat×Nat)->iE->Nat|[],_=>0|x::l,E=>(jI c E x.1 x.2.1 x.2.2).isSome.toNat+qU c l (iZ c E x)
def Ml(c:iB)(x:Nat×Nat×Nat):∀(l:List<|Nat×Nat×Nat)(E:iE),qU c (l++[x]) E=qU c l E+(jI c (jm c l E) x.1 x.2.1 x.2.2).isSome.toNat|[],E=>by simp[qU,jm]|y::l,E=>by simp only[List.cons_append,qU];rw[Ml c x l];simp only[jm,List.foldl_cons];omega
def YQ(c:iB)(x:Nat×Nat×Nat)(l:List<|Nat×Nat×Nat)(E:iE):jm c (l++[x]) E=iZ c (jm c l E) x:=by simp[jm]
def Inv.run{c:iB}{s0:Cells}:∀(l:List<|Nat×Nat×Nat){E:iE},(∀x∈l,x.1<=c.D.nb)->Inv c s0 E->Inv c s0 (jm c l E)|[],_,_,h=>h|x::l,E,a,h=>Inv.run l (λy b=>a y<|by simp[b]) (h.step<|a x<|by simp)
def CN{np fi i:Nat}(a:np=1\/np=2\/np=3\/np=4):(tV np fi i).1<np/\1<=(tV np fi i).2.1/\(tV np fi i).2.1<=5/\(tV np fi i).2.2<np:=by have hk:sW np fi i<np*5*np:=aX _ (by grind);unfold tV;grind
def Nj(hi:y<v*5*v):(mO v x).take (y+1)=(mO v x).take y++[tV v x y]:=by unfold mO;rw[List.take_add_one,bT,List.getElem?_range hi];rfl
def pE(d b c m i:Nat)(a:Act):Prop:=a.tmps.size=73/\a.defers=[]/\a.tmps.getD 0 I=u (L ⟨d,0,V⟩)/\a.tmps.getD 5 I=U S ((b*5*b:Nat):Int)/\a.tmps.getD 6 I=U S (m:Nat)/\a.tmps.getD 7 I=U S (c:Nat)/\a.tmps.getD 8 I=U S (i:Nat)
section
variable{gg np fi m i k:Nat}{a:Act}
def Se(hi:i<np*5*np)(h:pE gg np fi m i a)(w:J):zO.wp X (λex a o=>ex=M/\pE gg np fi m i a/\o=w) a w:=by obtain⟨j,n,d,e,b,c,f⟩:=h;obtain⟨g,rfl,l⟩:=vj a j n;rw[l]at d e b c f;rw[d,e,b,c,f];exact Vt gg np fi m i w g hi
def afc(h:pE gg np fi m (np*5*np) a)(w:J):zO.wp X (λex a o=>ex=.exit 0/\(a.tmps.size=73/\a.defers=[]/\a.tmps.getD 6 I=U S (m:Nat))/\o=w) a w:=by obtain⟨j,n,d,e,b,c,f⟩:=h;obtain⟨g,rfl,l⟩:=vj a j n;rw[l]at d e b c f;rw[d,e,b,c,f];exact R4 gg np fi m w g
def YJ(hi:i<80)(h:pE gg np fi m i a)(w:J):CP.wp X (λex a o=>ex=M/\pE gg np fi m (i+1) a/\o=w) a w:=by obtain⟨j,n,d,e,b,c,f⟩:=h;obtain⟨g,rfl,l⟩:=vj a j n;rw[l]at d e b c f;rw[d,e,b,c,f];exact W9 gg np fi m i w g hi
def aeW(n:0<np*5*np)(b:np*5*np<=80)(o:fi<np*5*np)(hi:i<np*5*np)(h:pE gg np fi m i a)(w:J):DH.wp X (λex a r=>ex=M/\(pE gg np fi m i a/\a.tmps.getD 9 I=U S (sW np fi i:Nat))/\r=w) a w:=by obtain⟨l,q,e,f,c,d,j⟩:=h;obtain⟨g,rfl,p⟩:=vj a l q;rw[p]at e f c d j;rw[e,f,c,d,j];exact QJ gg np fi m i w g n b o hi
def TF(b:np*5*np=5\/np*5*np=20\/np*5*np=45\/np*5*np=80)(h:pE gg np fi m i a)(l:a.tmps.getD 9 I=U S (k:Nat))(w:J):EO.wp X (λex a e=>ex=M/\(pE gg np fi m i a/\a.tmps.getD 9 I=U S (k:Nat))/\e=w) a w:=by obtain⟨q,y,j,o,d,f,n⟩:=h;obtain⟨g,rfl,x⟩:=vj a q y;rw[x]at j o d f n l;rw[j,o,d,f,n,l];exact iM (TY w g (np*5*np) b _ _ _ _ _) λex a e⟨q1,⟨q2,v,r,p,B,t,s,z⟩,c⟩=>⟨q1,⟨⟨q2,v,r,p,B,t,s⟩,z⟩,c⟩
def UP(e:Nat)(c:0<np)(b:np<=4)(hk:k<80)(h:pE gg np fi m i a)(f:a.tmps.getD 9 I=U S (k:Nat))(w:J)(c0:w.cell? ⟨gg,0,V⟩=L (u<|L ⟨e,0,V⟩))(c7:w.cell? ⟨gg,7,V⟩=L (U S (np:Nat))):(aG 10 ((jV pV).extract 0 25) Z).wp X (λex a s=>ex=M/\pE gg np fi m i a/\(a.tmps.getD 46 I=u (L ⟨e,0,V⟩)/\a.tmps.getD 52 I=U S ((k%np:Nat):Int)/\a.tmps.getD 60 I=U S ((1+k/np%5:Nat):Int)/\a.tmps.getD 67 I=U S ((k/np/5:Nat):Int))/\iD (λ_=>True) w s) a w:=by obtain⟨p,r,l,n,d,j,o⟩:=h;obtain⟨g,rfl,q⟩:=vj a p r;rw[q]at l n d j o f;rw[l,n,d,j,o,f];exact VM gg np k w g e c b hk _ _ _ _ c0 c7
def SU(c:Bool)(q:m<80)(h:pE gg np fi m i a)(b:a.tmps.getD 10 I=Q c)(w:J):ES.wp X (λex a o=>ex=M/\pE gg np fi (m+c.toNat) i a/\o=w) a w:=by obtain⟨n,p,d,f,l,j,e⟩:=h;obtain⟨g,rfl,r⟩:=vj a n p;rw[r]at d f l j e b;rw[d,f,l,j,e,b];have:=Ya gg np fi m i w g c q;cases c<;>exact this
end
def aaJ(b:Array Y):results aq b=pure (b.getD 4 I):=Go.Rel.results_tmp rfl b
section
variable{z:Nat}{O:Nat->Nat}{w:J}{e:Nat}{c:iB}{vB vL:Y}{K R:Nat}{E:iE}{s0:Cells}{t0:ai}
def LO{gg:Nat}(d:ph z O gg)(h:Ag z O w j)(b:w.cell? ⟨gg,v,V⟩=L n):j.cell? ⟨gg,v,V⟩=L n:=by rw[h.cell d<|bn _ _ b];exact b
def aeX{old:jL}(h0:oj old t0)(hz:1<=z)(hI:Inv c s0 E)(gg:Nat)(hN:ph z O gg)(c0:w.cell? ⟨gg,0,V⟩=L (u<|L ⟨e,0,V⟩))(c7:w.cell? ⟨gg,7,V⟩=L (U S ((c.D.nb+1:Nat):Int))){fi i m:Nat}(hf:fi<(c.D.nb+1)*5*(c.D.nb+1))(hi:i<(c.D.nb+1)*5*(c.D.nb+1))(hm:m<=i){a:Act}(h:pE gg (c.D.nb+1) fi m i a){w1:J}(hG:nB z O w e c vB vL K R (jm c ((mO (c.D.nb+1) fi).take i) E) w1)(aO:Exit->Act->J->Prop)(hQ:∀P l,pE gg (c.D.nb+1) fi (m+(jI c (jm c ((mO (c.D.nb+1) fi).take i) E) (tV (c.D.nb+1) fi i).1 (tV (c.D.nb+1) fi i).2.1 (tV (c.D.nb+1) fi i).2.2).isSome.toNat) (i+1) P->nB z O w e c vB vL K R (jm c ((mO (c.D.nb+1) fi).take<|i+1) E) l->aO M P l):jH (jb old) X [0] rL aO a w1:=by
 have F:=(jD old).fits;have C:=(jD old).kg;have B:=C.jS;have aR:=hI.H.G.nb;have s:c.D.nb+1=1\/c.D.nb+1=2\/c.D.nb+1=3\/c.D.nb+1=4:=by omega
 obtain⟨n1,n2,n3,n4⟩:=CN s;have y:(c.D.nb+1)*5*(c.D.nb+1)=5\/(c.D.nb+1)*5*(c.D.nb+1)=20\/(c.D.nb+1)*5*(c.D.nb+1)=45\/(c.D.nb+1)*5*(c.D.nb+1)=80:=by grind
 have N:(c.D.nb+1)*5*(c.D.nb+1)<=80:=by omega
 have am:Inv c s0<|jm c ((mO (c.D.nb+1) fi).take i) E:=Inv.run _ (λx t=>by obtain⟨j,hj,rfl⟩:=aF.1<|List.mem_of_mem_take t;have:=(CN (fi:=fi) (i:=j) s).1;omega) hI;rw[Nj hi,YQ]at hQ;have aC:sW (c.D.nb+1) fi i<80:=ax (aX _<|by omega) N;generalize t:tV (c.D.nb+1) fi i=x at*;have aT:x.1=sW (c.D.nb+1) fi i%(c.D.nb+1):=by rw[<-t];rfl
 have a0:x.2.1=1+sW (c.D.nb+1) fi i/(c.D.nb+1)%5:=by rw[<-t];rfl
 have aS:x.2.2=sW (c.D.nb+1) fi i/(c.D.nb+1)/5:=by rw[<-t];rfl
 generalize jm c ((mO (c.D.nb+1) fi).take i) E=Ei at*;rw[Pf];refine nH (by kernel_rfl) _ (λw=>Se hi h w) ?_;intro a h;refine kz F B<|qp F B ?_;refine nH (by kernel_rfl) _ (λw=>aeW (by omega) N hf hi h w) ?_;rintro a⟨h,h9⟩;refine nH (by kernel_rfl) _ (λw=>TF y h h9 w) ?_;rintro a⟨h,h9⟩;refine kz F B ?_;obtain⟨O1,av,o,n⟩:=hG;have d0:=LO hN o c0;have d7:=LO hN o c7;obtain⟨o1,o2,o3,o4,o5,o6,o7,o8⟩:=Xf;rw[acI];refine GI F C (R:=λa l=>pE gg (c.D.nb+1) fi m i a/\(a.tmps.getD 46 I=u (L ⟨e,0,V⟩)/\a.tmps.getD 52 I=U S (x.1:Nat)/\a.tmps.getD 60 I=U S (x.2.1:Nat)/\a.tmps.getD 67 I=U S (x.2.2:Nat))/\iD (λ_=>True) w1 l) (aar _) (by decide) (JC<|by kernel_rfl) (IH<|by kernel_rfl) (λa l g d f=>⟨f.1,f.2.1,f.2.2.re g d⟩) (λg d=>iM (UP e (by omega) (by omega) aC h h9 (w1.re g d) d0 d7) λex a l f=>⟨f.1,f.2.1,by simp_all,f.2.2.2.sN⟩) ?_;rintro b kk cs P l hb _⟨hA,⟨ac,aB,aL,al⟩,W⟩;have ad:=av.iR W λb hb=>rfl;have q:(#[.tmp 46,.tmp 52,.tmp 60,.tmp 67]).map P.eval=#[u<|L ⟨e,0,V⟩,U S<|x.1,U S<|x.2.1,U S<|x.2.2]:=by simp only[List.map_toArray,bX,bY,oJ,ac,aB,aL,al]
 refine Reach.path F B o1 o3 o4 (pg<|by kernel_rfl) Tryz.func36 (by kernel_rfl) (by kernel_rfl) (by rw[q];exact Jf h0 hz ad am _ _ _ (by omega) n2 n3<|by omega) ?_;rintro v w2⟨rfl,hg⟩;rw[o5];refine Reach.Hc F B o2 (.inr o6) o7 trivial ?_;obtain⟨a1,a2,a3,a4,a5,a6,a7⟩:=hA;rw[o8,oJ,m8 _<|by rw[a1];decide];refine Reach.last F B<|.stop ⟨M,_,_,rfl,?_,rfl⟩;have aw:=nB.step (o.step W.ag n) (λb hb=>n b hb) hg;generalize(jI c Ei x.1 x.2.1 x.2.2).isSome=r at*;generalize aa:((P.put (L 68)<|Q r).put (L 10)<|Q r)=A4;have g1:pE gg (c.D.nb+1) fi m i A4:=by rw[<-aa];exact⟨by rw[kx,kx];exact a1,by rw[put_defers,put_defers];exact a2,by rw[iK _<|by decide,iK _<|by decide];exact a3,by rw[iK _<|by decide,iK _<|by decide];exact a4,by rw[iK _<|by decide,iK _<|by decide];exact a5,by rw[iK _<|by decide,iK _<|by decide];exact a6,by rw[iK _<|by decide,iK _<|by decide];exact a7⟩
 have ap:A4.tmps.getD 10 I=Q r:=by rw[<-aa];exact m8 _ (by rw[kx,a1];decide)
 refine mR (by kernel_rfl) (λex a l=>ex=M/\pE gg (c.D.nb+1) fi (m+r.toNat) i a/\∃g d,l=w2.re g d) (λex a l g d f=>⟨f.1,f.2.1,by obtain⟨p,d',rfl⟩:=f.2.2;exact⟨g,d,rfl⟩⟩) (λex a l f=>by rw[f.1];trivial) (λg d=>iM (SU r (by omega) g1 ap<|w2.re g d) λex a l f=>⟨f.1,f.2.1,g,d,f.2.2⟩) ?_;rintro ex a5 w5⟨rfl,q1,g,d,rfl⟩;show jH (jb old) X [0] CP _ a5 _;refine oP ?_ g d;refine mR (by kernel_rfl) (λex a l=>ex=M/\pE gg (c.D.nb+1) fi (m+r.toNat) (i+1) a/\∃g d,l=w2.re g d) (λex a l g d f=>⟨f.1,f.2.1,by obtain⟨p,d',rfl⟩:=f.2.2;exact⟨g,d,rfl⟩⟩) (λex a l f=>by rw[f.1];trivial) (λg d=>iM (YJ (by omega) q1<|w2.re g d) λex a l f=>⟨f.1,f.2.1,g,d,f.2.2⟩) ?_;rintro ex a6 w6⟨rfl,r1,p,d',rfl⟩;exact hQ a6 _ r1<|aw.re p d'
end
section
variable{z:Nat}{O:Nat->Nat}{w:J}{e:Nat}{c:iB}{vB vL:Y}{K R:Nat}{E:iE}{s0:Cells}{t0:ai}
def KN(c:iB):∀(l:List<|Nat×Nat×Nat)(E:iE),qU c l E<=l.length|[],_=>aN _|x::l,E=>by have:=KN c l<|iZ c E x;have a:(jI c E x.1 x.2.1 x.2.2).isSome.toNat<=1:=Bool.toNat_le _;simp only[qU,bF];omega
def Ew{old:jL}(h0:oj old t0)(hz:1<=z)(hE:nG z O w e c vB vL K R E)(hI:Inv c s0 E)(k:Nat)(hN:ph z O k)(b:Int)(W:ji b)(c0:w.cell? ⟨k,0,V⟩=L (u<|L ⟨e,0,V⟩))(c7:w.cell? ⟨k,7,V⟩=L (U S ((c.D.nb+1:Nat):Int))):lj (jb old) X 18 #[u<|L ⟨k,0,V⟩,U S b] w λr j=>r=U S (qU c (mO (c.D.nb+1)<|ju b<|(c.D.nb+1)*5*(c.D.nb+1)) E:Nat)/\nB z O w e c vB vL K R (jm c (mO (c.D.nb+1)<|ju b<|(c.D.nb+1)*5*(c.D.nb+1)) E) j:=by
 have F:=(jD old).fits;have C:=(jD old).kg;have B:=C.jS;have ap:=hI.H.G.nb;have ac:c.D.nb+1=1\/c.D.nb+1=2\/c.D.nb+1=3\/c.D.nb+1=4:=by omega
 have am:(c.D.nb+1)*5*(c.D.nb+1)=5\/(c.D.nb+1)*5*(c.D.nb+1)=20\/(c.D.nb+1)*5*(c.D.nb+1)=45\/(c.D.nb+1)*5*(c.D.nb+1)=80:=by grind
 have al:ju b ((c.D.nb+1)*5*(c.D.nb+1))<(c.D.nb+1)*5*(c.D.nb+1):=tC _ (by omega);refine lj.xM F B Tryz.func18 acN ?_;rw[abm,acx];refine nH (by kernel_rfl) (λa=>a=⟨#[u<|L ⟨k,0,V⟩,U S b,I,I,U S 0,I,I,I,I,I,I,I,I,I,I,I,I,I,I,I,I,I,I,I,I,I,I,I,I,I,I,I,I,I,I,I,I,I,I,I,I,I,I,I,I,I,I,I,I,I,I,I,I,I,I,I,I,I,I,I,I,I,I,I,I,I,I,I,I,I,I,I,I],[]⟩) (λw=>Zc k w _) ?_;rintro a rfl;refine tE (by kernel_rfl) (λa j=>a.tmps.size=73/\a.defers=[]/\a.tmps.getD 0 I=u (L ⟨k,0,V⟩)/\a.tmps.getD 1 I=U S b/\a.tmps.getD 5 I=U S (((c.D.nb+1)*5*(c.D.nb+1)))/\iD (λ_=>True) w j) (λa j h d f=>⟨f.1,f.2.1,f.2.2.1,f.2.2.2.1,f.2.2.2.2.1,f.2.2.2.2.2.re h d⟩) (λh d=>iM (QX k (c.D.nb+1) ac (w.re h d) _ c7) λex a j f=>⟨f.1,f.2.1,f.2.2.1,f.2.2.2.1,f.2.2.2.2.1,f.2.2.2.2.2.1,f.2.2.2.2.2.2.sN⟩) ?_;rintro a w1⟨s1,s2,s3,t,o,k1⟩;refine nH (by kernel_rfl) (λa=>a.tmps.size=73/\a.defers=[]/\a.tmps.getD 0 I=u (L ⟨k,0,V⟩)/\a.tmps.getD 1 I=U S b/\a.tmps.getD 5 I=U S (((c.D.nb+1)*5*(c.D.nb+1)))/\a.tmps.getD 6 I=U S ((0))) (λw=>?_) ?_;.obtain⟨g,rfl,p⟩:=vj a s1 s2;rw[p]at s3 t o;rw[s3,t,o];exact iM (abJ w g _ _ _) λex a j f=>⟨f.1,by simp_all,f.2.2⟩
 rintro a⟨s1,s2,s3,t,o,s⟩;refine nH (by kernel_rfl) (λa=>a.tmps.size=73/\a.defers=[]/\a.tmps.getD 0 I=u (L ⟨k,0,V⟩)/\a.tmps.getD 5 I=U S (((c.D.nb+1)*5*(c.D.nb+1)))/\a.tmps.getD 6 I=U S ((0))/\a.tmps.getD 7 I=U S (ju b<|(c.D.nb+1)*5*(c.D.nb+1))) (λw=>?_) ?_;.obtain⟨g,rfl,p⟩:=vj a s1 s2;rw[p]at s3 t o s;rw[s3,t,o,s];exact abc (c.D.nb+1) w g _ _ b W (by omega)<|by omega
 rintro a⟨s1,s2,s3,o,s,s7⟩;generalize ju b ((c.D.nb+1)*5*(c.D.nb+1))=l at*;refine kz F B ?_;refine nH (by kernel_rfl) (λa=>pE k (c.D.nb+1) l 0 0 a) (λw=>?_) ?_;.obtain⟨g,rfl,p⟩:=vj a s1 s2;rw[p]at s3 o s s7;rw[s3,o,s,s7];exact acr k (c.D.nb+1) l 0 w g
 intro a hA;have P:nB z O w e c vB vL K R E w1:=⟨O,hE.iR k1 λ_ _=>rfl,k1.ag,λ_ _=>rfl⟩;refine qp F B ?_;refine xg F B (λa j=>∃i m,i<=(c.D.nb+1)*5*(c.D.nb+1)/\m=qU c ((mO (c.D.nb+1) l).take i) E/\pE k (c.D.nb+1) l m i a/\nB z O w e c vB vL K R (jm c ((mO (c.D.nb+1) l).take i) E) j) (λa _=>(c.D.nb+1)*5*(c.D.nb+1)-(intOf<|a.tmps.getD 8 I).toNat) ⟨0,0,by omega,rfl,hA,P⟩ ?_;rintro a3 y⟨i,m,hi,N,n,hG⟩;have ad:m<=i:=by rw[N];exact Nat.le_trans (KN c _ E)<|List.length_take_le _ _
 by_cases v:i<(c.D.nb+1)*5*(c.D.nb+1);.refine aeX h0 hz hI k hN c0 c7 al v ad n hG _ ?_;intro a4 w5 r1 r2;refine⟨⟨i+1,_,by omega,?_,r1,r2⟩,?_⟩;(.rw[Nj v,Ml,N]);.rw[r1.2.2.2.2.2.2,n.2.2.2.2.2.2];simp only[intOf];omega
 . (have x:i=(c.D.nb+1)*5*(c.D.nb+1):=by omega);have q:(mO (c.D.nb+1) l).take i=mO (c.D.nb+1) l:=List.take_of_length_le (by rw[x];simp[mO]);rw[q]at hG N;rw[x]at n;rw[Pf];refine kz F B<|mR (by kernel_rfl) (λex a j=>ex=.exit 0/\(a.tmps.size=73/\a.defers=[]/\a.tmps.getD 6 I=U S (m))/\∃h d,j=y.re h d) (λex a j h d f=>⟨f.1,f.2.1,by obtain⟨aa,d',rfl⟩:=f.2.2;exact⟨h,d,rfl⟩⟩) (λex a j f=>by rw[f.1];exact bQ ..) (λh d=>iM (afc n<|y.re h d) λex a j f=>⟨f.1,f.2.1,h,d,f.2.2⟩) ?_;rintro ex a4 w5⟨rfl,⟨q1,q2,q3⟩,h,d,rfl⟩;show jH (jb old) X [] rZ (QP aq λr j=>r=U S (qU c (mO (c.D.nb+1) l) E)/\nB z O w e c vB vL K R (jm c (mO (c.D.nb+1) l) E) j) a4 _;refine oP ?_ h d;refine mR (by kernel_rfl) (λex a j=>ex=ay/\a.tmps.getD 4 I=U S (m)/\∃h d,j=y.re h d) (λex a j h d f=>⟨f.1,f.2.1,by obtain⟨aa,d',rfl⟩:=f.2.2;exact⟨h,d,rfl⟩⟩) (λex a j f=>by rw[f.1];trivial) (λh d=>?_) ?_;(.obtain⟨g,rfl,p⟩:=vj a4 q1 q2;rw[p]at q3;rw[q3];exact iM (aaf (y.re h d) g _) λex a j f=>⟨f.1,f.2.1,h,d,f.2.2⟩);.rintro ex a5 w6⟨rfl,r1,h,d,rfl⟩;exact uE aaJ (.inr rfl) r1 ⟨by rw[N],hG.re h d⟩
end
end
section
def FE{n inv:Nat}(e:0<n)(b:(7*inv)%n=1%n)(a k:Nat)(c:a<n)(hk:k<n):∃i,i<n/\(a+i*7)%n=k:=by
 refine⟨((k+n-a)*inv)%n,aX _ e,?_⟩;have d:(((k+n-a)*inv)%n*7)%n=(k+n-a)%n:=by rw[Nat.mod_mul_mod,Nat.mul_assoc,aW inv 7,cj,b,<-cj,bR]
 rw[ck,d,<-ck,show a+(k+n-a)=k+n from by omega,Nat.add_mod_right,cx hk]
def Wn(b:v=1\/v=2\/v=3\/v=4){k:Nat}(a:x<v*5*v)(hk:k<v*5*v):∃i,i<v*5*v/\sW v x i=k:=by
 unfold sW;rcases b with rfl|rfl|rfl|rfl;.exact FE (inv:=3) (by decide) (by decide) x k a hk
 .exact FE (inv:=3) (by decide) (by decide) x k a hk
 .exact FE (inv:=13) (by decide) (by decide) x k a hk
 .exact FE (inv:=23) (by decide) (by decide) x k a hk
def F5(a:v=1\/v=2\/v=3\/v=4)(b:x<v*5*v){p k q:Nat}(c:p<v)(d:1<=k)(f:k<=5)(j:q<v):(p,k,q)∈mO v x:=by
 obtain⟨i,hi,e⟩:=Wn a b (k:=(q*5+(k-1))*v+p) (by rcases a with rfl|rfl|rfl|rfl<;>omega);unfold mO;refine aF.2 ⟨i,by simpa using hi,?_⟩;unfold tV;rw[e];have h:((q*5+(k-1))*v+p)%v=p:=by rw[Nat.mul_add_mod_self_right,cx c]
 have g:((q*5+(k-1))*v+p)/v=q*5+(k-1):=by rw[aW,Nat.mul_add_div<|by omega,Nat.div_eq_of_lt c,Nat.add_zero]
 rw[h,g];refine Prod.ext rfl<|Prod.ext ?_ ?_;.show 1+(q*5+(k-1))%5=k;omega
 .show(q*5+(k-1))/5=q;omega
def kl.step{c:iB}{s0:Cells}{E:iE}(a:Inv c s0 E)(h:kl c E){x:Nat×Nat×Nat}(b:x.1<=c.D.nb):kl c<|iZ c E x:=by unfold iZ;cases e:jI c E x.1 x.2.1 x.2.2 with|none=>exact h|some d=>exact h.pick a.H a.e b e
def DR{c:iB}(a:c.D.nb<=3){fi:Nat}:∀x∈mO (c.D.nb+1) fi,x.1<=c.D.nb:=by intro x b;obtain⟨i,_,rfl⟩:=aF.1 b;have:=(CN (np:=c.D.nb+1) (fi:=fi) (i:=i)<|by omega).1;omega
end
section
open Go.RowKit Go.Maps Go.Rel Go.Sort
def zR{old:jL}{w:J}{a:Act}{t:List Nat}{r:Exit->Act->J->Prop}{x:an}{id k d:Nat}{f:aP}{G:Array aM}{ts:Array ai}{fn:Func}(hx:x=aG id ((opsL x).take k++opAt (opsL x) k::(opsL x).drop (k+1)).toArray ae)(y:(opAt (opsL x) k).op=.call ⟨.value<|.func f,G,ts⟩)(hg:(opAt (opsL x) k).guard=V)(hd:(opAt (opsL x) k).dst=L d)(D:∀a∈G,kh (jb old) a)(hf:Tryz.prog.funcs[f]?=L fn)(hb:fn.body.isNone=ae)(hn:(fn.name== "runtime.NumGoroutine")=ae)(z:∀o∈(opsL x).take k++oC (opAt (opsL x) k)::(opsL x).drop (k+1),mr (jb old) X o)(p:Act->Prop)(n:∀ops c,c.heap=w.heap->wpList X ops (λex s b=>ex=M/\p s/\b=c) ((opsL x).take k) a c)(j:∀s,p s->G.map s.eval=F){q:Y->J->Prop}(i:lj (jb old) X f F w q)(K:Y->Act->Prop)(l:∀ops s v c,p s->(∃b,q v b)->wpList X ops (λex h b=>ex=M/\K v h/\b=c) ((opsL x).drop<|k+1) (s.put (L d) v) c)(hQ:∀a w g d,r M a w->r M a (w.re g d))(hk:∀v b h,q v b->K v h->r M h b):jH (jb old) X t x r a w:=by
 have P:=(jD old).fits;have C:=(jD old).kg;have B:=C.jS;rw[hx];refine Bm P C rfl y hg D hf hb hn z (R:=λh c=>p h/\∃g d,c=w.re g d) (λh c g d m=>⟨m.1,by obtain⟨aa,N,rfl⟩:=m.2;exact⟨g,d,rfl⟩⟩) hQ (λg d=>qw (λe s c m=>⟨m.1,m.2.1,g,d,m.2.2⟩) _<|n _ (w.re g d) rfl) ?_;rintro h c⟨H,g,N,rfl⟩;refine⟨q,?_,?_⟩;.rw[j h H];exactλW=>(i W).re g N
 intro v O h2 E d2;rw[hd];refine qw ?_ _<|l _ h v (O.re E d2) H ⟨O,h2⟩;grind
def Ix(h:v<10000000):ji (v:Int):=by unfold ji;simp only[Lit.wf,aA,decide_eq_true_eq];exact⟨cz (b:=0) (by decide)<|by omega,cz (b:=9223372036854775807) (by omega)<|by decide⟩
end
end Go.Proofs.YtldeiiffabfmeaaGreatDoor
