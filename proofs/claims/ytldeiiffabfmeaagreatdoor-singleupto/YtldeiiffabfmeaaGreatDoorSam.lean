/- Whatever engines of one partition are made of and whatever steps are taken, orderlylaw.Single answers true and leaves its arguments as they were: arguments of bulk at most 1,048,576; the program's laid table of steps; goroutines may be left behind. -/
import Derived.Test.YtldeiiffabfmeaaGreatDoorAim
set_option linter.all false
set_option maxRecDepth 100000
set_option maxHeartbeats 4000000
open Go renaming undef->E,Value->S,World->Q,Code->q,TypeId->ai
open Go.Proofs.Tryz renaming prog->J,f4->y,func4->ak,checked->ao,params4->au
open Bool renaming true->K,false->P
open Option renaming some->O,none->z,getD_some->ah
open Go.Value renaming pointer->X,agg->ae,slice->aj
open Go.Obj renaming cells->D
open Go.World renaming alloc->B,cell?->t,doorLaid->ar
open Option.some renaming inj->aq
variable{v:Go.Act}
namespace Go.Proofs.YtldeiiffabfmeaaGreatDoor
section
open Go.RowKit Go.Maps Go.Rel
def ack(w:Q)(f:V->Y):kY w jw 1 0 f:=⟨z,0,rfl,A,λh=>A⟩
def Sl(w:World)(t:Nat->Question->Nat)(u:Nat):(w.re t u).heap.size=w.heap.size:=rfl
noncomputable def yM:q:=Tryz.f4.body.getD .skip
def ant:Tryz.f4.body=O yM:=rfl
noncomputable def QQ:q:=ju yM
noncomputable def Qm:q:=ju<|jm yM
noncomputable def Ns:q:=ju<|jm<|jm yM
noncomputable def NH:q:=ju<|jm<|jm<|jm yM
noncomputable def uX:q:=ju<|jm<|jm<|jm<|jm yM
def aaA:yM=.seq QQ (.seq Qm<|.seq Ns<|.seq NH<|.seq uX .ret):=vI
def XW(T:Z S):results y T=pure (T.getD 4 E):=Go.Rel.AH rfl T
def XU(a b:S):(#[a,b]++Array.replicate (Tryz.f4.ntmps-(#[a,b]:Z S)) E)=#[a,b,E,E,E,E,E,E,E,E,E,E,E,E,E,E,E,E,E,E]:=vI
def IH(a:Act)(hs:a.tmps.size=20)(hd:a.defers=[]):∃g:V->S,a=⟨#[g 0,g 1,g 2,g 3,g 4,g 5,g 6,g 7,g 8,g 9,g 10,g 11,g 12,g 13,g 14,g 15,g 16,g 17,g 18,g 19],[]⟩/\∀k,a k E=g k:=by let⟨T,b⟩:=a;simp only at hs hd;subst hd;exact⟨λk=>T.getD k E,C7 (Act.mk · [])<|Eq.trans (Fc hs) rfl,λ_=>rfl⟩
def ags(w:Q)(e:S)(vB vL d:S)(a b c:Y):QQ.wp J (λex s w'=>ex=.normal/\(s.tmps.size=20/\s.defers=[]/\s 1 E=e/\s 2 E=X w)/\w'=B w (D #[vB,a,b,c,vL,d] 28)) ⟨#[ae #[vB,a,b,c,vL,d],e,E,E,E,E,E,E,E,E,E,E,E,E,E,E,E,E,E,E],[]⟩ w:=by simp only[QQ,yM,y,ah,ju];go_wp2
def aiW(w:Q)(a vB:S)(N:V)(hs:v.tmps.size=20)(hd:v.defers=[])(e1:v 1 E=a)(e2:v 2 E=X N)(c0:t w N=O vB)(c:World.frozen? w N=P):Qm.wp J (λex s w'=>ex=.normal/\(s.tmps.size=20/\s.defers=[]/\s 1 E=a/\s 2 E=X N)/\w'=w N jw) v w:=by obtain⟨g,rfl,b⟩:=IH v hs hd;rw[b]at e1 e2;rw[e1,e2];simp only[Qm,yM,y,ah,ju,jm];go_wp2
def alU(w:Q)(a:S)(N:V)(hs:v.tmps.size=20)(hd:v.defers=[])(e1:v 1 E=a)(e2:v 2 E=X N):Ns.wp J (λex s w'=>ex=.normal/\(s.tmps.size=20/\s.defers=[]/\s 1 E=a/\s 2 E=X N/\s 5 E=X w)/\w'=B w (D #[jw,jw,jw,jw,jw,jw,jw,jw,kQ] 37)) v w:=by obtain⟨g,rfl,b⟩:=IH v hs hd;rw[b]at e1 e2;rw[e1,e2];simp only[Ns,yM,y,ah,ju,jm];go_wp2
def aeW(w:Q)(e:S)(vB vL d:S)(a b c:Y)(N W:V){G:Q->U}(hs:v.tmps.size=20)(hd:v.defers=[])(e1:v 1 E=e)(e2:v 2 E=X N)(e5:v 5 E=X W)(m:t w N=O (vB))(m1:t w (N 1 z)=O (.int .i64 a))(m2:t w (N 2 z)=O (.int .i64 b))(k:t w (N 3 z)=O (.int .i64 c))(j:t w (N 4 z)=O (vL))(l:t w (N 5 z)=O (d))(i:Calls J 12 #[X W,ae #[vB,a,b,c,vL,d]] w λr w'=>r=.returned K/\G w'):NH.wp J (λex s w'=>ex=.normal/\(s.tmps.size=20/\s.defers=[]/\s 1 E=e/\s 5 E=X W/\s 6 E=K)/\G w') v w:=by obtain⟨g,rfl,f⟩:=IH v hs hd;rw[f]at e1 e2 e5;rw[e1,e2,e5];simp only[NH,yM,y,ah,ju,jm];go_wp2_with fail;refine Calls.mono i ?_;rintro r w1⟨rfl,h⟩;go_wp2;exact h
def aeE:uX=.region 4 ((jD uX).take 4++lE (jD uX) 4::(jD uX).drop 5).toArray P:=vI
def afL:(lE (jD uX) 4).op=.call ⟨.value<|.func 13,#[.tmp 16,.tmp 17],#[29,40]⟩:=vI
def ami(a:mB):∀o∈(jD uX).take 4++oh (lE (jD uX) 4)::(jD uX).drop 5,qh (kJ a) J o:=zV
def ZV(w:Q)(a:S)(W:V)(hs:v.tmps.size=20)(hd:v.defers=[])(e1:v 1 E=a)(e5:v 5 E=X W)(e6:v 6 E=K):wpList J ((jD uX).take 4++oh (lE (jD uX) 4)::(jD uX).drop 5).toArray (λex s w'=>ex=.normal/\(s.tmps.size=20/\s.defers=[]/\s 15 E=K/\s 16 E=X W/\s 17 E=a)/\w'=w) ((jD uX).take 4) v w:=by obtain⟨g,rfl,b⟩:=IH v hs hd;rw[b]at e1 e5 e6;rw[e1,e5,e6];simp only[jD,lE,oh,uX,yM,y,ah,ju,jm,List.take,List.drop,List.getD,List.getElem?_cons_succ,List.getElem?_cons_zero,List.cons_append,List.nil_append];go_wp2
def ahg(w:Q)(hs:v.tmps.size=20)(hd:v.defers=[])(a:v 15 E=K)(b:v 18 E=K):wpList J ((jD uX).take 4++oh (lE (jD uX) 4)::(jD uX).drop 5).toArray (λex s w'=>ex=.normal/\(s.tmps.size=20/\s.defers=[]/\s 4 E=K)/\w'=w) ((jD uX).drop 5) v w:=by obtain⟨g,rfl,c⟩:=IH v hs hd;rw[c]at a b;rw[a,b];simp only[jD,lE,oh,uX,yM,y,ah,ju,jm,List.take,List.drop,List.getD,List.getElem?_cons_succ,List.getElem?_cons_zero,List.cons_append,List.nil_append];go_wp2
def singleL{k:mB}{t0:ai}(h0:vr k t0)(w:Q)(hZ:Zero w)(o:0<w.heap.size)(vB vL h i:S)(a b c:Y){nb:V}{fb:V->Y}{nl:V}{ts:V->jE}{ns:V}{fs:V->Y}{nc:V}{fO:V->V->Y}{gO:V->I}(R:AK w vB vL h nb fb nl ts ns fs)(hC:Du w i nc fO gO)(ac:nc<=199000):nO (kJ k) J 4 #[ae #[vB,a,b,c,vL,h],i] w λr w'=>r=K:=by
 have F:=(mv k).nW;have C:=(mv k).nR;have T:=C.mI;have nt:=R.nt;refine nO.CK F T ak ant ?_;rw[XU,aaA];refine xj (λs w'=>(s.tmps.size=20/\s.defers=[]/\s 1 E=i/\s 2 E=X w)/\∃f u,w'=(B w<|D #[vB,a,b,c,vL,h] 28).re f u) (λs w' f u g=>⟨g.1,by obtain⟨p,M,rfl⟩:=g.2;exact⟨f,u,rfl⟩⟩) (λf u=>pT (ags (w.re f u) i vB vL h a b c) λex s w' g=>⟨g.1,g.2.1,f,u,g.2.2⟩) ?_;rintro s w1⟨⟨s1,s2,s3,l⟩,f,u,rfl⟩;refine tS ?_ f u;have r0:=lZ w [vB,a,b,c,vL,h] 28;refine xj (λs w'=>(s.tmps.size=20/\s.defers=[]/\s 1 E=i/\s 2 E=X w)/\∃f u,w'=(B w (D #[vB,a,b,c,vL,h] 28) w jw).re f u) (λs w' f u g=>⟨g.1,by obtain⟨p,M,rfl⟩:=g.2;exact⟨f,u,rfl⟩⟩) (λf u=>pT (aiW ((B w<|D #[vB,a,b,c,vL,h] 28).re f u) i vB w s1 s2 s3 l (r0.el _)<|r0.kr 0) λex s w' g=>⟨g.1,g.2.1,f,u,g.2.2⟩) ?_;rintro s w1⟨⟨s1,s2,s3,l⟩,f,u,rfl⟩;refine tS ?_ f u;have x:tZ 0 0 0 0 w (w.heap.size+1)<|B (B w (D #[vB,a,b,c,vL,h] 28) w jw)<|D #[jw,jw,jw,jw,jw,jw,jw,jw,kQ] 37:=Qn (Below.setCell kI jK _) F0;have m:=(r0.wX 0 jw).lP<|D #[jw,jw,jw,jw,jw,jw,jw,jw,kQ] 37;refine xj (λs w'=>(s.tmps.size=20/\s.defers=[]/\s 1 E=i/\s 2 E=X w/\s 5 E=X (O ⟨(w.heap.size+1),0,z⟩))/\∃f u,w'=(B (B w (D #[vB,a,b,c,vL,h] 28) w jw)<|D #[jw,jw,jw,jw,jw,jw,jw,jw,kQ] 37).re f u) (λs w' f u g=>⟨g.1,by obtain⟨p,M,rfl⟩:=g.2;exact⟨f,u,rfl⟩⟩) (λf u=>pT (alU ((B w (D #[vB,a,b,c,vL,h] 28) w jw).re f u) i w s1 s2 s3 l) λex s w' g=>⟨g.1,by have e:=g.2.1;simp only[Sl,World.size_alloc,World.size_setCell]at e;exact e,f,u,g.2.2⟩) ?_;rintro s w1⟨⟨s1,s2,s3,l,G⟩,f,u,rfl⟩;refine tS ?_ f u;generalize(B (B w (D #[vB,a,b,c,vL,h] 28) w jw)<|D #[jw,jw,jw,jw,jw,jw,jw,jw,kQ] 37)=w2 at*;refine xj (λs w'=>(s.tmps.size=20/\s.defers=[]/\s 1 E=i/\s 5 E=X (O ⟨(w.heap.size+1),0,z⟩)/\s 6 E=K)/\tZ (0+1) (0+1+2*nl) (0+nl) (0+1) w (w.heap.size+1) w') (λs w' f u g=>⟨g.1,g.2.re f u⟩) (λf u=>aeW (w2.re f u) i (aj z 0 0) vL h a b c w.heap.size (w.heap.size+1) s1 s2 s3 l G (m.el _) (m.el _) (m.el _) (m.el _) (m.el _) (m.el _)<|(x.re f u).Qs A {R with b:=ack w fb,jX:=A} a b c A) ?_;rintro s w3⟨⟨s1,s2,s3,l,G⟩,x⟩;obtain⟨n,v0,d,hP⟩:=x.pl A A A A hZ o;refine M6 (j:=1) (d:=18) aeE afL vI vI vI zi Tryz.func13 vI vI (ami k) _ (λw' _=>ZV w' i (w.heap.size+1) s1 s2 s3 l G) (λs H=>⟨H.2.2.1,by rw[H.1];decide⟩) (λs⟨_,_,_,e1,e2⟩=>by simp only[List.map_toArray,List.map_cons,List.map_nil,AB,e1,e2]) (Pc h0 hP jK hC A) (λs=>s 4 E=K) ?_ ?_;.rintro s v w'⟨q1,q2,q3,_⟩⟨_,rfl⟩;refine xp ?_ _<|ahg w' (by rw[Ds];exact q1) (by rw[Ip];exact q2) (by rw[yY _ E1];exact q3)<|EA _ (by rw[q1];decide);rintro ex s aa⟨e1,⟨_,_,e2⟩,e3⟩;exact⟨e1,e2,e3⟩
 rintro v w4 s _ h4;refine Hq F T ?_;exact yw (Rr:=λr w'=>r=K) XW (.inr rfl) h4 rfl
end
end Go.Proofs.YtldeiiffabfmeaaGreatDoor
namespace Go.Proofs.YtldeiiffabfmeaaGreatDoor.Kp
section
open Go.RowKit Go.Rel Go.Conc Go.ChangeShapes Go.WideShapes Go.ChangeAt Go.Proofs.YtldeiiffabfmeaaGreatDoor
section
variable{H:Type}{enc:ai×S->H}
def Qk{d0 d1:DataW H}(hk:Rows.uptoSmall H [d0,d1]=K):Rows.uptoBulk d0<=1048576/\Rows.uptoBulk d1<=1048576:=by have h:=of_decide_eq_true hk;simp only[Rows.uptoBulkAll]at h;omega
end
section
variable{H:Type}{enc:ai×S->H}{w:Q}{base:V}{held:I}
def MY{f:FuncId}{fn:Func}{s:ChangeSpec}{k:V}(ay:Tryz.prog.funcs[f]?=O fn)(N:fn.params=#[28,40])(aw:fn.resultTypes=#[4])(ad:Tryz.prog.inits.idxOf? f=z)(al:fn.results=#[.tmp k])(l:s.vars=[])(e:∀d0 d1,s.fn H ([d0,d1]++[])={results:=[.lit<|.bool K],args:=[d0,d1]})(aa:∀(W:Q)(t0:ai),vr ⟨W.heap,W.os,W.output⟩ t0->Zero (nA W)->0<(nA W).heap.size->∀(vB vL vS vC:S)(a b c:Y)(nb:V)(fb:V->Y)(nl:V)(ts:V->jE)(ns:V)(fs:V->Y)(nc:V)(fO:V->V->Y)(gO:V->I),AK (nA W) vB vL vS nb fb nl ts ns fs->Du (nA W) vC nc fO gO->nc<=199000->nO (kJ ⟨W.heap,W.os,W.output⟩) J f #[ae #[vB,a,b,c,vL,vS],vC] (nA W) λr C=>r=K)(W:Q)(base:V)(d:Z S)(ds gs:L<|DataW H)(F:L MemPlace)(u:∀(j:V)aB v,fn.params[j]?=O aB->d[j]?=O v->Value.okWide J W .any base aB v)(hW:DataW.Whole enc J fn.params.toList s.vars P W d.toList ds gs F)(hk:Rows.uptoSmall H (ds++gs)=K)(hL:laidMetH J [("orderly/code.steps",Rows.laid_orderly_code_steps)] W)(az:W.ShapedOpen J):∃M last o C t',runNT J (M+1) (solo (G (Frame.enter J f d .normal) []) W) #[]=(.ended o C,t')/\runN J M (solo (G (Frame.enter J f d .normal) []) W)=.next last/\step J last=.ended o C/\Conc.Good J (λv W'=>s.post enc J fn P K P P W d v W') last o C t':=by
 have R:=hW;obtain⟨p,aC,av,hV,rfl,ax,an⟩:=hW;have hA:=av;rw[N]at hA u;rw[l]at hV;obtain⟨v0,v1,d0,d1,p0,p1,rfl,rfl,rfl,h0,h1⟩:=trodAll_two hA;obtain⟨rfl,rfl⟩:=trodVars_none hV;simp only[List.append_nil]at R hk ax an;obtain⟨b0,b1⟩:=Qk hk;obtain⟨nb,nl,ns,fb,fs,ts,a,b,c,vB,vL,vS,rfl,hM,-⟩:=Lj (u 0 28 v0 rfl rfl) h0 b0;obtain⟨nc,fO,gO,hC,am⟩:=Oo h1 (okWide_slice Tryz.underlying40<|u 1 40 v1 rfl rfl) b1;obtain⟨t0,g,T⟩:=OW hL az;have ac:=λx i=>by simpa using R.lt x i
 have hb:=aa W t0 T (QA g) (Nz g) _ _ _ _ a b c nb fb nl ts ns fs nc fO gO hM hC am;rw[<-Ku]at hb;obtain⟨M,last,o,C,t',e1,e2,e3,e4⟩:=OT (mv _).nW (mv _).nR.mI ay ad al (QV g #[ae #[vB,a,b,c,vL,vS],v1]) (by simpa using hb);refine⟨M,last,o,C,t',e1,e2,e3,e4.mono λv hF=>?_⟩;obtain⟨rfl,aA⟩:=hF;have m:EI W C:=aA;have n:∀x∈p0++p1,(λb=>decide<|b<W.heap.size) x.block=K:=λx i=>pC
 have a0:DataW.Trod enc J C 0 (λb=>decide<|b<W) K 28 (ae #[vB,a,b,c,vL,vS]) d0 p0:=WideElems.Trod_stays EC JM Kt h0 (λx i=>m.mW<|ac x<|by simp[i]) λx i=>n x (by simp[i]);have a1:DataW.Trod enc J C 0 (λb=>decide<|b<W) K 40 v1 d1 p1:=WideElems.Trod_stays EC QL N9 h1 (λx i=>m.mW<|ac x<|by simp[i]) λx i=>n x (by simp[i]);refine⟨[d0,d1],[],p0++p1,[],p0++p1,[],R,?_,?_,?_,World.keptBut_mono (λx i=>⟨i,Or.inr<|by simpa using i⟩)<|m.PU _,λh=>by cases h⟩;.rw[e,aw];exact trodAll_cons_mk (shut_bool Tryz.underlying4 _) trodAll_mk0
 .rw[e,N];exact trodAll_mk2 a0 a1
 .rw[e,l];rfl
end
def agO(os:Os){H:Type}(b:ai×S->H):∃a,DataW.whole b J ((ar J 600 os).forCall (λ_ _=>0) ⟨#[],#[zS,aj z 0 0],[]⟩).memory Tryz.f4.params.toList Rows.singleSpec.vars P #[zS,aj z 0 0].toList 8=O ([.agg [.agg [.nil,.lit<|.int .i64 0,.lit<|.int .i64 0,.lit<|.int .i64 0],.nil,.nil],.nil],[],a):=⟨[],vI⟩
def aek(os:Os)(d:os.Started)(H:Type)(f:ai×S->H)(F:Stop.Interp):ReturnsInLeavingWide {} ao os 4 .any ((Rows.OpenSpec.upto Rows.singleSpec).preRow f J y Rows.singleUptoRow.domain P Rows.singleUptoRow.laid)<|((Rows.OpenSpec.upto Rows.singleSpec).at F).post f J y P K P P:=by obtain⟨m,N⟩:=agO os f;refine returnsInLeavingWide_of_good (C:=ao) PM d (witness_row_at (enc:=f) (C:=ao) P (ar J 600 os) #[zS,aj z 0 0] rfl vI vI vI<|OpenSpec.preRow_of_cond 8 N vI (λk hk=>by cases hk;kernel_rfl) vI<|Pt os _) ?_;intro w tape i _ x _ p h _;let⟨_,_,_,G,l,_,_,_,_,g⟩:=p;obtain rfl:y=G:=aq<|Eq.trans Tryz.func4.symm l;let⟨⟨n,hl⟩,_⟩:=h;obtain⟨ds,gs,e,hw,_,hk⟩:=OpenSpec.pre_parts n;have u:=DataW.Whole.of_heap (w':=w.forCall tape i) (by rfl) hw;obtain⟨M,last,o,w',T,h1,h2,h3,h4⟩:=MY (s:=Rows.singleSpec) (k:=4) ak au vI vI rfl rfl (λ_ _=>rfl) (λW t0 h0 hZ j vB vL R vC a b c nb fb nl ts ns fs nc fO gO hM hC r=>singleL h0 (nA W) hZ j vB vL R vC a b c hM hC r) (w.forCall tape i) w i.args ds gs e g u (hk _ rfl) (hl.of_heap<|by rfl) x;exact⟨M,last,o,w',T,h1,h2,h3,h4.mono λv n=>ChangeSpec.post_blind n⟩
def adF:Rows.SingleUptoSaid:=OX 4 y rfl rfl rfl rfl rfl rfl rfl ⟨rfl,rfl,rfl,rfl,rfl⟩ rfl rfl rfl rfl rfl vI ak vI (of_decide_eq_true vI) (by unfold Func.isWrapper;first|(rw[rW<|by decide+kernel];kernel_rfl)|(rw[BW<|by decide+kernel];exact⟨rfl,rfl⟩)) λos a H b F=>by rw[OpenClaim.pre_eq_preRow];exact aek os a H b F
def amR(f:FuncId)(fn:Func)(e:Tryz.pinned.checked.prog.funcNamed "orderly/orderlylaw.Single"=O f)(a:Tryz.pinned.checked.prog.funcs[f]?=O fn):P=Tryz.pinned.checked.prog.looks []/\∀(j:V)b,fn.params[j]?=O b->Tryz.pinned.checked.prog.wantsStandIn b=P:=by
 obtain rfl:f=4:=aq ((show Tryz.prog.funcNamed "orderly/orderlylaw.Single"=O 4 by kernel_rfl).symm.trans e)|>.symm;obtain rfl:fn=y:=(aq<|Eq.trans Tryz.func4.symm a).symm;refine⟨vI,λj b d=>?_⟩;rw[au]at d;have c:=Array.mem_of_getElem? d;simp at c;rcases c with rfl|rfl;.exact(show Tryz.prog.wantsStandIn 28=P by kernel_rfl)
 .exact(show Tryz.prog.wantsStandIn 40=P by kernel_rfl)
def aog:Rows.SingleUptoCardSaid:=ON _ _ _ _ adF vI singleUpto_row_tie rfl ⟨rfl,rfl⟩ vI rfl amR vI
end
end Go.Proofs.YtldeiiffabfmeaaGreatDoor.Kp
namespace Go.Proofs.YtldeiiffabfmeaaGreatDoor
theorem single_holds : Rows.SingleUptoCardSaid := Kp.aog
end Go.Proofs.YtldeiiffabfmeaaGreatDoor
