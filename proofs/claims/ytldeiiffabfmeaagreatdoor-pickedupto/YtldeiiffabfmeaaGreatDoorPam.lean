/- Whatever engines are made of and whatever steps are taken, orderlylaw.Picked answers true and leaves its arguments as they were: arguments of bulk at most 1,048,576; the program's laid table of steps; goroutines may be left behind. -/
import Derived.Test.YtldeiiffabfmeaaGreatDoorAim
set_option linter.all false
set_option maxRecDepth 100000
set_option maxHeartbeats 4000000
open Go renaming undef->E,Value->S,World->Q,TypeId->ae
open Go.Proofs.Tryz renaming prog->J,f5->z,func5->ai,checked->ak,params5->au
open Bool renaming true->K,false->X
open Option renaming some->O,none->y,getD_some->ah
open Go.Value renaming pointer->P,agg->t,slice->aj
open Go.Obj renaming cells->D
open Go.World renaming alloc->B,cell?->q,size_alloc->aq,doorLaid->ar
open Option.some renaming inj->ao
variable{v:Go.Act}
namespace Go.Proofs.YtldeiiffabfmeaaGreatDoor
section
open Go.RowKit Go.Maps Go.Rel
def Sl(w:World)(t:Nat->Question->Nat)(u:Nat):(w.re t u).heap.size=w.heap.size:=rfl
noncomputable def AT:Code:=Tryz.f5.body.getD .skip
def agq:Tryz.f5.body=O AT:=rfl
noncomputable def Po:Code:=ju AT
noncomputable def Pq:Code:=ju<|jm AT
noncomputable def Oi:Code:=ju<|jm<|jm AT
noncomputable def uO:Code:=ju<|jm<|jm<|jm AT
def agv:AT=.seq Po (.seq Pq<|.seq Oi<|.seq uO .ret):=vI
def Zz(T:Z S):results z T=pure (T.getD 4 E):=Go.Rel.AH rfl T
def adB(a b:S):(#[a,b]++Array.replicate (Tryz.f5.ntmps-(#[a,b]:Z S)) E)=#[a,b,E,E,E,E,E,E,E,E,E,E,E,E,E,E,E,E]:=vI
def LX(a:Act)(hs:a.tmps.size=18)(hd:a.defers=[]):∃g:V->S,a=⟨#[g 0,g 1,g 2,g 3,g 4,g 5,g 6,g 7,g 8,g 9,g 10,g 11,g 12,g 13,g 14,g 15,g 16,g 17],[]⟩/\∀k,a k E=g k:=by let⟨T,b⟩:=a;simp only at hs hd;subst hd;exact⟨λk=>T.getD k E,C7 (Act.mk · [])<|Eq.trans (Fc hs) rfl,λ_=>rfl⟩
def anO(w:Q)(e:S)(vB vL d:S)(a b c:Y):Po.wp J (λex s w'=>ex=.normal/\(s.tmps.size=18/\s.defers=[]/\s 1 E=e/\s 2 E=P w)/\w'=B w (D #[vB,a,b,c,vL,d] 28)) ⟨#[t #[vB,a,b,c,vL,d],e,E,E,E,E,E,E,E,E,E,E,E,E,E,E,E,E],[]⟩ w:=by simp only[Po,AT,z,ah,ju];go_wp2
def ajy(w:Q)(a:S)(N:V)(hs:v.tmps.size=18)(hd:v.defers=[])(e1:v 1 E=a)(e2:v 2 E=P N):Pq.wp J (λex s w'=>ex=.normal/\(s.tmps.size=18/\s.defers=[]/\s 1 E=a/\s 2 E=P N/\s 5 E=P w)/\w'=B w (D #[jw,jw,jw,jw,jw,jw,jw,jw,kQ] 37)) v w:=by obtain⟨g,rfl,b⟩:=LX v hs hd;rw[b]at e1 e2;rw[e1,e2];simp only[Pq,AT,z,ah,ju,jm];go_wp2
def agb(w:Q)(e:S)(vB vL d:S)(a b c:Y)(N W:V){G:Q->U}(hs:v.tmps.size=18)(hd:v.defers=[])(e1:v 1 E=e)(e2:v 2 E=P N)(e5:v 5 E=P W)(m:q w N=O (vB))(m1:q w (N 1 y)=O (.int .i64 a))(m2:q w (N 2 y)=O (.int .i64 b))(k:q w (N 3 y)=O (.int .i64 c))(j:q w (N 4 y)=O (vL))(l:q w (N 5 y)=O (d))(i:Calls J 12 #[P W,t #[vB,a,b,c,vL,d]] w λr w'=>r=.returned K/\G w'):Oi.wp J (λex s w'=>ex=.normal/\(s.tmps.size=18/\s.defers=[]/\s 1 E=e/\s 5 E=P W/\s 6 E=K)/\G w') v w:=by obtain⟨g,rfl,f⟩:=LX v hs hd;rw[f]at e1 e2 e5;rw[e1,e2,e5];simp only[Oi,AT,z,ah,ju,jm];go_wp2_with fail;refine Calls.mono i ?_;rintro r w1⟨rfl,h⟩;go_wp2;exact h
def acX:uO=.region 3 ((jD uO).take 4++lE (jD uO) 4::(jD uO).drop 5).toArray X:=vI
def alo:(lE (jD uO) 4).op=.call ⟨.value<|.func 13,#[.tmp 14,.tmp 15],#[29,40]⟩:=vI
def akz(a:mB):∀o∈(jD uO).take 4++oh (lE (jD uO) 4)::(jD uO).drop 5,qh (kJ a) J o:=zV
def akE(w:Q)(a:S)(W:V)(hs:v.tmps.size=18)(hd:v.defers=[])(e1:v 1 E=a)(e5:v 5 E=P W)(e6:v 6 E=K):wpList J ((jD uO).take 4++oh (lE (jD uO) 4)::(jD uO).drop 5).toArray (λex s w'=>ex=.normal/\(s.tmps.size=18/\s.defers=[]/\s 13 E=K/\s 14 E=P W/\s 15 E=a)/\w'=w) ((jD uO).take 4) v w:=by obtain⟨g,rfl,b⟩:=LX v hs hd;rw[b]at e1 e5 e6;rw[e1,e5,e6];simp only[jD,lE,oh,uO,AT,z,ah,ju,jm,List.take,List.drop,List.getD,List.getElem?_cons_succ,List.getElem?_cons_zero,List.cons_append,List.nil_append];go_wp2
def afW(w:Q)(hs:v.tmps.size=18)(hd:v.defers=[])(a:v 13 E=K)(b:v 16 E=K):wpList J ((jD uO).take 4++oh (lE (jD uO) 4)::(jD uO).drop 5).toArray (λex s w'=>ex=.normal/\(s.tmps.size=18/\s.defers=[]/\s 4 E=K)/\w'=w) ((jD uO).drop 5) v w:=by obtain⟨g,rfl,c⟩:=LX v hs hd;rw[c]at a b;rw[a,b];simp only[jD,lE,oh,uO,AT,z,ah,ju,jm,List.take,List.drop,List.getD,List.getElem?_cons_succ,List.getElem?_cons_zero,List.cons_append,List.nil_append];go_wp2
def anJ{h:mB}{t0:ae}(h0:vr h t0)(w:Q)(hZ:Zero w)(o:0<w.heap.size)(vB vL i k:S)(a b c:Y){nb:V}{fb:V->Y}{nl:V}{ts:V->jE}{ns:V}{fs:V->Y}{nc:V}{fO:V->V->Y}{gO:V->I}(H:AK w vB vL i nb fb nl ts ns fs)(hC:Du w k nc fO gO)(ac:nc<=199000):nO (kJ h) J 5 #[t #[vB,a,b,c,vL,i],k] w λr w'=>r=K:=by
 have F:=(mv h).nW;have C:=(mv h).nR;have R:=C.mI;have nt:=H.nt;refine nO.CK F R ai agq ?_;rw[adB,agv];refine xj (λs w'=>(s.tmps.size=18/\s.defers=[]/\s 1 E=k/\s 2 E=P w)/\∃f u,w'=(B w<|D #[vB,a,b,c,vL,i] 28).re f u) (λs w' f u g=>⟨g.1,by obtain⟨x,u',rfl⟩:=g.2;exact⟨f,u,rfl⟩⟩) (λf u=>pT (anO (w.re f u) k vB vL i a b c) λex s w' g=>⟨g.1,g.2.1,f,u,g.2.2⟩) ?_;rintro s w1⟨⟨s1,s2,s3,m⟩,f,u,rfl⟩;refine tS ?_ f u;have p:tZ 0 0 0 0 w (w.heap.size+1)<|B (B w<|D #[vB,a,b,c,vL,i] 28)<|D #[jw,jw,jw,jw,jw,jw,jw,jw,kQ] 37:=Qn kI<|aq _ _;have l:=(lZ w [vB,a,b,c,vL,i] 28).lP<|D #[jw,jw,jw,jw,jw,jw,jw,jw,kQ] 37;refine xj (λs w'=>(s.tmps.size=18/\s.defers=[]/\s 1 E=k/\s 2 E=P w/\s 5 E=P (O ⟨(w.heap.size+1),0,y⟩))/\∃f u,w'=(B (B w<|D #[vB,a,b,c,vL,i] 28)<|D #[jw,jw,jw,jw,jw,jw,jw,jw,kQ] 37).re f u) (λs w' f u g=>⟨g.1,by obtain⟨x,u',rfl⟩:=g.2;exact⟨f,u,rfl⟩⟩) (λf u=>pT (ajy ((B w<|D #[vB,a,b,c,vL,i] 28).re f u) k w s1 s2 s3 m) λex s w' g=>⟨g.1,by have e:=g.2.1;simp only[Sl,aq]at e;exact e,f,u,g.2.2⟩) ?_;rintro s w1⟨⟨s1,s2,s3,m,G⟩,f,u,rfl⟩;refine tS ?_ f u;generalize(B (B w<|D #[vB,a,b,c,vL,i] 28)<|D #[jw,jw,jw,jw,jw,jw,jw,jw,kQ] 37)=T at*;refine xj (λs w'=>(s.tmps.size=18/\s.defers=[]/\s 1 E=k/\s 5 E=P (O ⟨(w.heap.size+1),0,y⟩)/\s 6 E=K)/\tZ (0+1) (0+1+2*nl) (0+nl) (0+1) w (w.heap.size+1) w') (λs w' f u g=>⟨g.1,g.2.re f u⟩) (λf u=>agb (T.re f u) k vB vL i a b c w.heap.size (w.heap.size+1) s1 s2 s3 m G (l.el _) (l.el _) (l.el _) (l.el _) (l.el _) (l.el _)<|(p.re f u).Qs A H a b c A) ?_;rintro s w3⟨⟨s1,s2,s3,m,G⟩,p⟩;obtain⟨n,v0,d,hP⟩:=p.pl A A A A hZ o;refine M6 (j:=1) (d:=16) acX alo vI vI vI zi Tryz.func13 vI vI (akz h) _ (λw' _=>akE w' k (w.heap.size+1) s1 s2 s3 m G) (λs M=>⟨M.2.2.1,by rw[M.1];decide⟩) (λs⟨_,_,_,e1,e2⟩=>by simp only[List.map_toArray,List.map_cons,List.map_nil,AB,e1,e2]) (Pc h0 hP jK hC A) (λs=>s 4 E=K) ?_ ?_;.rintro s v w'⟨q1,q2,q3,_⟩⟨_,rfl⟩;refine xp ?_ _<|afW w' (by rw[Ds];exact q1) (by rw[Ip];exact q2) (by rw[yY _ E1];exact q3)<|EA _ (by rw[q1];decide);rintro ex s aa⟨e1,⟨_,_,e2⟩,e3⟩;exact⟨e1,e2,e3⟩
 rintro v w4 s _ h4;refine Hq F R ?_;exact yw (Rr:=λr w'=>r=K) Zz (.inr rfl) h4 rfl
end
end Go.Proofs.YtldeiiffabfmeaaGreatDoor
namespace Go.Proofs.YtldeiiffabfmeaaGreatDoor.Kp
section
open Go.RowKit Go.Rel Go.Conc Go.ChangeShapes Go.WideShapes Go.ChangeAt Go.Proofs.YtldeiiffabfmeaaGreatDoor
section
variable{H:Type}{enc:ae×S->H}
def Qk{d0 d1:DataW H}(hk:Rows.uptoSmall H [d0,d1]=K):Rows.uptoBulk d0<=1048576/\Rows.uptoBulk d1<=1048576:=by have h:=of_decide_eq_true hk;simp only[Rows.uptoBulkAll]at h;omega
end
section
variable{H:Type}{enc:ae×S->H}{w:Q}{base:V}{held:I}
def MY{f:FuncId}{fn:Func}{s:ChangeSpec}{k:V}(ay:Tryz.prog.funcs[f]?=O fn)(N:fn.params=#[28,40])(aw:fn.resultTypes=#[4])(ad:Tryz.prog.inits.idxOf? f=y)(al:fn.results=#[.tmp k])(l:s.vars=[])(e:∀d0 d1,s.fn H ([d0,d1]++[])={results:=[.lit<|.bool K],args:=[d0,d1]})(aa:∀(W:Q)(t0:ae),vr ⟨W.heap,W.os,W.output⟩ t0->Zero (nA W)->0<(nA W).heap.size->∀(vB vL vS vC:S)(a b c:Y)(nb:V)(fb:V->Y)(nl:V)(ts:V->jE)(ns:V)(fs:V->Y)(nc:V)(fO:V->V->Y)(gO:V->I),AK (nA W) vB vL vS nb fb nl ts ns fs->Du (nA W) vC nc fO gO->nc<=199000->nO (kJ ⟨W.heap,W.os,W.output⟩) J f #[t #[vB,a,b,c,vL,vS],vC] (nA W) λr C=>r=K)(W:Q)(base:V)(d:Z S)(ds gs:L<|DataW H)(F:L MemPlace)(u:∀(j:V)aB v,fn.params[j]?=O aB->d[j]?=O v->Value.okWide J W .any base aB v)(hW:DataW.Whole enc J fn.params.toList s.vars X W d.toList ds gs F)(hk:Rows.uptoSmall H (ds++gs)=K)(hL:laidMetH J [("orderly/code.steps",Rows.laid_orderly_code_steps)] W)(az:W.ShapedOpen J):∃M last o C t',runNT J (M+1) (solo (G (Frame.enter J f d .normal) []) W) #[]=(.ended o C,t')/\runN J M (solo (G (Frame.enter J f d .normal) []) W)=.next last/\step J last=.ended o C/\Conc.Good J (λv W'=>s.post enc J fn X K X X W d v W') last o C t':=by
 have R:=hW;obtain⟨p,aC,av,hV,rfl,ax,an⟩:=hW;have hA:=av;rw[N]at hA u;rw[l]at hV;obtain⟨v0,v1,d0,d1,p0,p1,rfl,rfl,rfl,h0,h1⟩:=trodAll_two hA;obtain⟨rfl,rfl⟩:=trodVars_none hV;simp only[List.append_nil]at R hk ax an;obtain⟨b0,b1⟩:=Qk hk;obtain⟨nb,nl,ns,fb,fs,ts,a,b,c,vB,vL,vS,rfl,hM,-⟩:=Lj (u 0 28 v0 rfl rfl) h0 b0;obtain⟨nc,fO,gO,hC,am⟩:=Oo h1 (okWide_slice Tryz.underlying40<|u 1 40 v1 rfl rfl) b1;obtain⟨t0,g,T⟩:=OW hL az;have ac:=λx i=>by simpa using R.lt x i
 have hb:=aa W t0 T (QA g) (Nz g) _ _ _ _ a b c nb fb nl ts ns fs nc fO gO hM hC am;rw[<-Ku]at hb;obtain⟨M,last,o,C,t',e1,e2,e3,e4⟩:=OT (mv _).nW (mv _).nR.mI ay ad al (QV g #[t #[vB,a,b,c,vL,vS],v1]) (by simpa using hb);refine⟨M,last,o,C,t',e1,e2,e3,e4.mono λv hF=>?_⟩;obtain⟨rfl,aA⟩:=hF;have m:EI W C:=aA;have n:∀x∈p0++p1,(λb=>decide<|b<W.heap.size) x.block=K:=λx i=>pC
 have a0:DataW.Trod enc J C 0 (λb=>decide<|b<W) K 28 (t #[vB,a,b,c,vL,vS]) d0 p0:=WideElems.Trod_stays EC JM Kt h0 (λx i=>m.mW<|ac x<|by simp[i]) λx i=>n x (by simp[i]);have a1:DataW.Trod enc J C 0 (λb=>decide<|b<W) K 40 v1 d1 p1:=WideElems.Trod_stays EC QL N9 h1 (λx i=>m.mW<|ac x<|by simp[i]) λx i=>n x (by simp[i]);refine⟨[d0,d1],[],p0++p1,[],p0++p1,[],R,?_,?_,?_,World.keptBut_mono (λx i=>⟨i,Or.inr<|by simpa using i⟩)<|m.PU _,λh=>by cases h⟩;.rw[e,aw];exact trodAll_cons_mk (shut_bool Tryz.underlying4 _) trodAll_mk0
 .rw[e,N];exact trodAll_mk2 a0 a1
 .rw[e,l];rfl
end
def Ym(os:Os){H:Type}(b:ae×S->H):∃a,DataW.whole b J ((ar J 600 os).forCall (λ_ _=>0) ⟨#[],#[zS,aj y 0 0],[]⟩).memory Tryz.f5.params.toList Rows.pickedSpec.vars X #[zS,aj y 0 0].toList 8=O ([.agg [.agg [.nil,.lit<|.int .i64 0,.lit<|.int .i64 0,.lit<|.int .i64 0],.nil,.nil],.nil],[],a):=⟨[],vI⟩
def abP(os:Os)(d:os.Started)(H:Type)(f:ae×S->H)(F:Stop.Interp):ReturnsInLeavingWide {} ak os 5 .any ((Rows.OpenSpec.upto Rows.pickedSpec).preRow f J z Rows.pickedUptoRow.domain X Rows.pickedUptoRow.laid)<|((Rows.OpenSpec.upto Rows.pickedSpec).at F).post f J z X K X X:=by obtain⟨m,N⟩:=Ym os f;refine returnsInLeavingWide_of_good (C:=ak) PM d (witness_row_at (enc:=f) (C:=ak) X (ar J 600 os) #[zS,aj y 0 0] rfl vI vI vI<|OpenSpec.preRow_of_cond 8 N vI (λk hk=>by cases hk;kernel_rfl) vI<|Pt os _) ?_;intro w tape i _ x _ p h _;let⟨_,_,_,G,l,_,_,_,_,g⟩:=p;obtain rfl:z=G:=ao<|Eq.trans Tryz.func5.symm l;let⟨⟨n,hl⟩,_⟩:=h;obtain⟨ds,gs,e,hw,_,hk⟩:=OpenSpec.pre_parts n;have u:=DataW.Whole.of_heap (w':=w.forCall tape i) (by rfl) hw;obtain⟨M,last,o,w',T,h1,h2,h3,h4⟩:=MY (s:=Rows.pickedSpec) (k:=4) ai au vI vI rfl rfl (λ_ _=>rfl) (λW t0 h0 hZ j vB vL R vC a b c nb fb nl ts ns fs nc fO gO hM hC r=>anJ h0 (nA W) hZ j vB vL R vC a b c hM hC r) (w.forCall tape i) w i.args ds gs e g u (hk _ rfl) (hl.of_heap<|by rfl) x;exact⟨M,last,o,w',T,h1,h2,h3,h4.mono λv n=>ChangeSpec.post_blind n⟩
def amG:Rows.PickedUptoSaid:=OX 5 z rfl rfl rfl rfl rfl rfl rfl ⟨rfl,rfl,rfl,rfl,rfl⟩ rfl rfl rfl rfl rfl vI ai vI (of_decide_eq_true vI) (by unfold Func.isWrapper;first|(rw[rW<|by decide+kernel];kernel_rfl)|(rw[BW<|by decide+kernel];exact⟨rfl,rfl⟩)) λos a H b F=>by rw[OpenClaim.pre_eq_preRow];exact abP os a H b F
def adi(f:FuncId)(fn:Func)(e:Tryz.pinned.checked.prog.funcNamed "orderly/orderlylaw.Picked"=O f)(a:Tryz.pinned.checked.prog.funcs[f]?=O fn):X=Tryz.pinned.checked.prog.looks []/\∀(j:V)b,fn.params[j]?=O b->Tryz.pinned.checked.prog.wantsStandIn b=X:=by
 obtain rfl:f=5:=ao ((show Tryz.prog.funcNamed "orderly/orderlylaw.Picked"=O 5 by kernel_rfl).symm.trans e)|>.symm;obtain rfl:fn=z:=(ao<|Eq.trans Tryz.func5.symm a).symm;refine⟨vI,λj b d=>?_⟩;rw[au]at d;have c:=Array.mem_of_getElem? d;simp at c;rcases c with rfl|rfl;.exact(show Tryz.prog.wantsStandIn 28=X by kernel_rfl)
 .exact(show Tryz.prog.wantsStandIn 40=X by kernel_rfl)
def aob:Rows.PickedUptoCardSaid:=ON _ _ _ _ amG vI pickedUpto_row_tie rfl ⟨rfl,rfl⟩ vI rfl adi vI
end
end Go.Proofs.YtldeiiffabfmeaaGreatDoor.Kp
namespace Go.Proofs.YtldeiiffabfmeaaGreatDoor
theorem picked_holds : Rows.PickedUptoCardSaid := Kp.aob
end Go.Proofs.YtldeiiffabfmeaaGreatDoor
