/- Whatever two engines are made of and whatever steps are taken on them in turns, orderlylaw.All answers true and leaves its arguments as they were: arguments of bulk at most 1,048,576; the program's laid table of steps; goroutines may be left behind. -/
import Derived.Test.YtldeiiffabfmeaaGreatDoorAim
set_option linter.all false
set_option maxRecDepth 100000
set_option maxHeartbeats 4000000
open Go renaming undef->E,Value->X,World->y,Code->ae,TypeId->aj
open Go.Proofs.Tryz renaming prog->J,f11->B,func11->ak,checked->ar,params11->az
open Bool renaming true->K,false->D
open Go.Value renaming pointer->O,agg->t,int->ai,slice->aq
open Option renaming some->S,none->P,getD_some->ah
open Go.Obj renaming cells->Q
open Go.World renaming alloc->z,cell?->M,size_alloc->ax,doorLaid->ay
open Go.WideElems renaming Trod_stays->ao
open Option.some renaming inj->au
variable{v:Go.Act}{x a b d e f g:Nat}
namespace Go.Proofs.YtldeiiffabfmeaaGreatDoor
section
open Go.RowKit Go.Maps Go.Rel
section
variable{N k3 k4 k6:V}{w w':y}{W:V}
def oZ.ro{C:V->U}{w:y}{base W k3 k4 k6 n:V}{d vs:V->X}(h:oZ C w base W k3 k4 k6 x n d vs){g m:V}{c:V->X}(b:je w g a m c)(f:a≠37/\a≠101/\a≠22/\a≠86/\a≠87/\a≠25/\a≠26):RO W d g:=by
 refine⟨b.jI h.x f.1,λq F e=>?_⟩;let⟨_,j,_⟩:=h.t3;let⟨_,k,_⟩:=h.t4;let⟨_,o,_⟩:=h.t5;let⟨_,o6,_⟩:=h.t6;let⟨_,p,_⟩:=h.t7;have n1:=h.n1;have n2:=h.n2;have n8:=h.n8;obtain⟨-,r,u,i,v,l,s⟩:=f;have:q=0\/q=1\/q=2\/q=3\/q=4\/q=5\/q=6\/q=7\/q=8:=A
 rcases this with rfl|rfl|rfl|rfl|rfl|rfl|rfl|rfl|rfl;.exact h.t0.jI b r e
 .rw[n1]at e;cases e
 .rw[n2]at e;cases e
 .exact j.jI b u e
 .exact k.jI b i e
 .exact o.jI b v e
 .exact o6.jI b l e
 .exact p.jI b s e
 .rw[n8]at e;cases e
def tZ.amS(h:tZ N k3 k4 k6 w W w')(C:N<=1){vB vL i:X}{nb:V}{fb:V->Y}{nl:V}{ts:V->jE}{ns:V}{fs:V->Y}(m:AK w vB vL i nb fb nl ts ns fs)(a b c:Y)(hk:k3+2*nl<=900000/\k4+nl<=900000/\k6<=900){g mm:V}{u:V->X}(k:je w' g 28 mm u):Calls J 12 #[O W,t #[vB,a,b,c,vL,i]] w' λr d=>r=.returned K/\tZ (N+1) (k3+1+2*nl) (k4+nl) (k6+1) w W d/\je d g 28 mm u:=by let⟨n,dd,H,vs,v,p,G,e⟩:=h;refine Calls.mono (Uh W w k3 k4 k6 n nb nl ns H vs fb fs ts a b c vB vL i w' p.r ⟨hk.1,hk.2.1,hk.2.2,A⟩ (m.b.uC.jr e) (m.l.uC.jr e) (m.s.uC.jr e) m.jX m.nt m.uW m.sm m.wf.1) ?_;intro r d f;have F:=f.1;have x:=f.2.2.1;have hk:=f.2.1;obtain⟨T,j,o,q,e1,e2,e3⟩:=p.Sv (G C) f m.wf;exact⟨F,⟨T,j,o,q,A,e2,λR=>e3 A,e.jA ⟨x.size,λb v _=>x.block b v⟩⟩,k.jg<|hk.jg g (p.r.ro k E1) k.lt⟩
end
def Sl(w:World)(t:Nat->Question->Nat)(u:Nat):(w.re t u).heap.size=w.heap.size:=rfl
noncomputable def yG:ae:=Tryz.f11.body.getD .skip
def aey:Tryz.f11.body=S yG:=rfl
noncomputable def Mw:ae:=ju yG
noncomputable def OI:ae:=ju<|jm yG
noncomputable def PO:ae:=ju<|jm<|jm yG
noncomputable def Qw:ae:=ju<|jm<|jm<|jm yG
noncomputable def uT:ae:=ju<|jm<|jm<|jm<|jm yG
def YB:yG=.seq Mw (.seq OI<|.seq PO<|.seq Qw<|.seq uT .ret):=vI
def amZ(T:Z X):results B T=pure (T.getD 6 E):=Go.Rel.AH rfl T
def XM(c b a:X):(#[c,b,a]++Array.replicate (Tryz.f11.ntmps-(#[c,b,a]:Z X)) E)=#[c,b,a,E,E,E,E,E,E,E,E,E,E,E,E,E,E,E,E,E,E,E,E,E,E,E,E]:=vI
def Hs(a:Act)(hs:a.tmps.size=27)(hd:a.defers=[]):∃g:V->X,a=⟨#[g 0,g 1,g 2,g 3,g 4,g 5,g 6,g 7,g 8,g 9,g 10,g 11,g 12,g 13,g 14,g 15,g 16,g 17,g 18,g 19,g 20,g 21,g 22,g 23,g 24,g 25,g 26],[]⟩/\∀k,a k E=g k:=by let⟨T,b⟩:=a;simp only at hs hd;subst hd;exact⟨λk=>T.getD k E,C7 (Act.mk · [])<|Eq.trans (Fc hs) rfl,λ_=>rfl⟩
def afX(w:y)(h:X)(vB vL g:X)(a b c:Y)(d f e:X)(i b2 c2:Y):Mw.wp J (λex s w'=>ex=.normal/\(s.tmps.size=27/\s.defers=[]/\s 2 E=h/\s 3 E=O w/\s 4 E=O (S ⟨(w.heap.size+1),0,P⟩))/\w'=z (z w<|Q #[vB,a,b,c,vL,g] 28) (Q #[d,i,b2,c2,f,e] 28)) ⟨#[t #[vB,a,b,c,vL,g],t #[d,i,b2,c2,f,e],h,E,E,E,E,E,E,E,E,E,E,E,E,E,E,E,E,E,E,E,E,E,E,E,E],[]⟩ w:=by simp only[Mw,yG,B,ah,ju];go_wp2
def aea(w:y)(a:X)(N c:V)(hs:v.tmps.size=27)(hd:v.defers=[])(e2:v 2 E=a)(e3:v 3 E=O N)(b:v 4 E=O c):OI.wp J (λex s w'=>ex=.normal/\(s.tmps.size=27/\s.defers=[]/\s 2 E=a/\s 3 E=O N/\s 4 E=O c/\s 7 E=O w)/\w'=z w (Q #[jw,jw,jw,jw,jw,jw,jw,jw,kQ] 37)) v w:=by obtain⟨g,rfl,d⟩:=Hs v hs hd;rw[d]at e2 e3 b;rw[e2,e3,b];simp only[OI,yG,B,ah,ju,jm];go_wp2
def aad(w:y)(h:X)(vB vL f:X)(a b c:Y)(N i W:V){G:y->U}(hs:v.tmps.size=27)(hd:v.defers=[])(e2:v 2 E=h)(e3:v 3 E=O N)(e:v 4 E=O i)(d:v 7 E=O W)(n:M w N=S (vB))(m1:M w (N 1 P)=S (ai .i64 a))(m2:M w (N 2 P)=S (ai .i64 b))(p:M w (N 3 P)=S (ai .i64 c))(m:M w (N 4 P)=S (vL))(o:M w (N 5 P)=S (f))(l:Calls J 12 #[O W,t #[vB,a,b,c,vL,f]] w λr w'=>r=.returned K/\G w'):PO.wp J (λex s w'=>ex=.normal/\(s.tmps.size=27/\s.defers=[]/\s 2 E=h/\s 4 E=O i/\s 7 E=O W/\s 8 E=K)/\G w') v w:=by obtain⟨g,rfl,k⟩:=Hs v hs hd;rw[k]at e2 e3 e d;rw[e2,e3,e,d];simp only[PO,yG,B,ah,ju,jm];go_wp2_with fail;refine Calls.mono l ?_;rintro r w1⟨rfl,j⟩;go_wp2;exact j
def aeN(w:y)(i:X)(vB vL j:X)(a b c:Y)(d W:V){G:y->U}(hs:v.tmps.size=27)(hd:v.defers=[])(e2:v 2 E=i)(f:v 4 E=O d)(e:v 7 E=O W)(h:v 8 E=K)(o:M w d=S (vB))(m1:M w (d 1 P)=S (ai .i64 a))(m2:M w (d 2 P)=S (ai .i64 b))(n:M w (d 3 P)=S (ai .i64 c))(q:M w (d 4 P)=S (vL))(p:M w (d 5 P)=S (j))(k:Calls J 12 #[O W,t #[vB,a,b,c,vL,j]] w λr w'=>r=.returned K/\G w'):Qw.wp J (λex s w'=>ex=.normal/\(s.tmps.size=27/\s.defers=[]/\s 2 E=i/\s 7 E=O W/\s 8 E=K/\s 9 E=K)/\G w') v w:=by obtain⟨g,rfl,m⟩:=Hs v hs hd;rw[m]at e2 f e h;rw[e2,f,e,h];simp only[Qw,yG,B,ah,ju,jm];go_wp2_with fail;refine Calls.mono k ?_;rintro r w1⟨rfl,l⟩;go_wp2;exact l
def abE:uT=.region 4 ((jD uT).take 7++lE (jD uT) 7::(jD uT).drop 8).toArray D:=vI
def anl:(lE (jD uT) 7).op=.call ⟨.value<|.func 13,#[.tmp 23,.tmp 24],#[29,40]⟩:=vI
def Y0(a:mB):∀o∈(jD uT).take 7++oh (lE (jD uT) 7)::(jD uT).drop 8,qh (kJ a) J o:=zV
def aiQ(w:y)(d:X)(W:V)(hs:v.tmps.size=27)(hd:v.defers=[])(e2:v 2 E=d)(a:v 7 E=O W)(c:v 8 E=K)(b:v 9 E=K):wpList J ((jD uT).take 7++oh (lE (jD uT) 7)::(jD uT).drop 8).toArray (λex s w'=>ex=.normal/\(s.tmps.size=27/\s.defers=[]/\s 22 E=K/\s 23 E=O W/\s 24 E=d)/\w'=w) ((jD uT).take 7) v w:=by obtain⟨g,rfl,e⟩:=Hs v hs hd;rw[e]at e2 a c b;rw[e2,a,c,b];simp only[jD,lE,oh,uT,yG,B,ah,ju,jm,List.take,List.drop,List.getD,List.getElem?_cons_succ,List.getElem?_cons_zero,List.cons_append,List.nil_append];go_wp2
def aeg(w:y)(hs:v.tmps.size=27)(hd:v.defers=[])(b:v 22 E=K)(a:v 25 E=K):wpList J ((jD uT).take 7++oh (lE (jD uT) 7)::(jD uT).drop 8).toArray (λex s w'=>ex=.normal/\(s.tmps.size=27/\s.defers=[]/\s 6 E=K)/\w'=w) ((jD uT).drop 8) v w:=by obtain⟨g,rfl,c⟩:=Hs v hs hd;rw[c]at b a;rw[b,a];simp only[jD,lE,oh,uT,yG,B,ah,ju,jm,List.take,List.drop,List.getD,List.getElem?_cons_succ,List.getElem?_cons_zero,List.cons_append,List.nil_append];go_wp2
def ahE{G:mB}{t0:aj}(h0:vr G t0)(w:y)(hZ:Zero w)(aa:0<w.heap.size)(vB vL q p:X)(a b c:Y)(i k l:X)(o b2 c2:Y){nb:V}{fb:V->Y}{nl:V}{ts:V->jE}{ns:V}{fs:V->Y}{al:V->Y}{ac:V->jE}{ad:V->Y}{nc:V}{fO:V->V->Y}{gO:V->I}(hM:AK w vB vL q nb fb nl ts ns fs)(an:AK w i k l x al f ac g ad)(nt:nl+f<=250000)(hC:Du w p nc fO gO)(aA:nc<=199000):nO (kJ G) J 11 #[t #[vB,a,b,c,vL,q],t #[i,o,b2,c2,k,l],p] w λr w'=>r=K:=by
 have F:=(mv G).nW;have C:=(mv G).nR;have av:=C.mI;refine nO.CK F av ak aey ?_;rw[XM,YB];refine xj (λs w'=>(s.tmps.size=27/\s.defers=[]/\s 2 E=p/\s 3 E=O w/\s 4 E=O (S ⟨(w.heap.size+1),0,P⟩))/\∃h u,w'=(z (z w<|Q #[vB,a,b,c,vL,q] 28)<|Q #[i,o,b2,c2,k,l] 28).re h u) (λs w' h u m=>⟨m.1,by obtain⟨am,u',rfl⟩:=m.2;exact⟨h,u,rfl⟩⟩) (λh u=>pT (afX (w.re h u) p vB vL q a b c i k l o b2 c2) λex s w' m=>⟨m.1,m.2.1,h,u,m.2.2⟩) ?_;rintro s w1⟨⟨s1,s2,s3,T,R⟩,h,u,rfl⟩;refine tS ?_ h u;have rM:=((lZ w [vB,a,b,c,vL,q] 28).lP<|Q #[i,o,b2,c2,k,l] 28).lP<|Q #[jw,jw,jw,jw,jw,jw,jw,jw,kQ] 37;have H:=(lZ (z w<|Q #[vB,a,b,c,vL,q] 28) [i,o,b2,c2,k,l] 28).lP<|Q #[jw,jw,jw,jw,jw,jw,jw,jw,kQ] 37;have hX:tZ 0 0 0 0 w (w.heap.size+2)<|z (z (z w<|Q #[vB,a,b,c,vL,q] 28)<|Q #[i,o,b2,c2,k,l] 28)<|Q #[jw,jw,jw,jw,jw,jw,jw,jw,kQ] 37:=Qn yB F0;rw[ax]at H;refine xj (λs w'=>(s.tmps.size=27/\s.defers=[]/\s 2 E=p/\s 3 E=O w/\s 4 E=O (S ⟨(w.heap.size+1),0,P⟩)/\s 7 E=O (S ⟨(w.heap.size+2),0,P⟩))/\∃h u,w'=(z (z (z w<|Q #[vB,a,b,c,vL,q] 28)<|Q #[i,o,b2,c2,k,l] 28)<|Q #[jw,jw,jw,jw,jw,jw,jw,jw,kQ] 37).re h u) (λs w' h u m=>⟨m.1,by obtain⟨am,u',rfl⟩:=m.2;exact⟨h,u,rfl⟩⟩) (λh u=>pT (aea ((z (z w<|Q #[vB,a,b,c,vL,q] 28)<|Q #[i,o,b2,c2,k,l] 28).re h u) p w (w.heap.size+1) s1 s2 s3 T R) λex s w' m=>⟨m.1,by have e:=m.2.1;simp only[Sl,ax]at e;exact e,h,u,m.2.2⟩) ?_;rintro s w1⟨⟨s1,s2,s3,T,R,s6⟩,h,u,rfl⟩;refine tS ?_ h u;generalize(z (z (z w<|Q #[vB,a,b,c,vL,q] 28)<|Q #[i,o,b2,c2,k,l] 28)<|Q #[jw,jw,jw,jw,jw,jw,jw,jw,kQ] 37)=w2 at*;have aB:=H.lt;refine xj (λs w'=>(s.tmps.size=27/\s.defers=[]/\s 2 E=p/\s 4 E=O (S ⟨(w.heap.size+1),0,P⟩)/\s 7 E=O (S ⟨(w.heap.size+2),0,P⟩)/\s 8 E=K)/\tZ (0+1) (0+1+2*nl) (0+nl) (0+1) w (w.heap.size+2) w'/\je w' (w.heap.size+1) 28 6 (lc [i,o,b2,c2,k,l])) (λs w' h u m=>⟨m.1,m.2.1.re h u,m.2.2.jg rfl⟩) (λh u=>aad (w2.re h u) p vB vL q a b c w.heap.size (w.heap.size+1) (w.heap.size+2) s1 s2 s3 T R s6 (rM.el _) (rM.el _) (rM.el _) (rM.el _) (rM.el _) (rM.el _)<|(hX.re h u).amS A hM a b c A<|H.jg rfl) ?_;rintro s w3⟨⟨s1,s2,s3,T,R,s6⟩,hX,H⟩;refine xj (λs w'=>(s.tmps.size=27/\s.defers=[]/\s 2 E=p/\s 7 E=O (S ⟨(w.heap.size+2),0,P⟩)/\s 8 E=K/\s 9 E=K)/\tZ (0+1+1) (0+1+2*nl+1+2*f) (0+nl+f) (0+1+1) w (w.heap.size+2) w') (λs w' h u m=>⟨m.1,m.2.re h u⟩) (λh u=>aeN (w3.re h u) p i k l o b2 c2 (w.heap.size+1) (w.heap.size+2) s1 s2 s3 T R s6 (H.el _) (H.el _) (H.el _) (H.el _) (H.el _) (H.el _)<|(hX.re h u).Qs A an o b2 c2 A) ?_;rintro s w5⟨⟨s1,s2,s3,T,R,s6⟩,hX⟩;obtain⟨n,v0,d,hP⟩:=hX.pl A A A A hZ aa;refine M6 (j:=4) (d:=25) abE anl vI vI vI zi Tryz.func13 vI vI (Y0 G) _ (λw' _=>aiQ w' p (w.heap.size+2) s1 s2 s3 T R s6) (λs hA=>⟨hA.2.2.1,by rw[hA.1];decide⟩) (λs⟨_,_,_,e1,e2⟩=>by simp only[List.map_toArray,List.map_cons,List.map_nil,AB,e1,e2]) (Pc h0 hP jK hC A) (λs=>s 6 E=K) ?_ ?_;.rintro s v w'⟨q1,q2,q3,_⟩⟨_,rfl⟩;refine xp ?_ _<|aeg w' (by rw[Ds];exact q1) (by rw[Ip];exact q2) (by rw[yY _ E1];exact q3)<|EA _ (by rw[q1];decide);rintro ex s aw⟨e1,⟨_,_,e2⟩,e3⟩;exact⟨e1,e2,e3⟩
 rintro v w4 s _ h4;refine Hq F av ?_;exact yw (Rr:=λr w'=>r=K) amZ (.inr rfl) h4 rfl
end
end Go.Proofs.YtldeiiffabfmeaaGreatDoor
namespace Go.Proofs.YtldeiiffabfmeaaGreatDoor.Kp
section
open Go.RowKit Go.Rel Go.Conc Go.ChangeShapes Go.WideShapes Go.ChangeAt Go.Proofs.YtldeiiffabfmeaaGreatDoor
section
variable{H:Type}{enc:aj×X->H}{w:y}{base:V}{held:I}
def aay{d0 d1 d2:DataW H}(hk:Rows.uptoSmall H [d0,d1,d2]=K):Rows.uptoBulk d0+Rows.uptoBulk d1+Rows.uptoBulk d2<=1048576:=by have h:=of_decide_eq_true hk;simp only[Rows.uptoBulkAll]at h;omega
def X5{f:FuncId}{fn:Func}{s:ChangeSpec}{k:V}(aM:Tryz.prog.funcs[f]?=S fn)(ac:fn.params=#[28,28,40])(aH:fn.resultTypes=#[4])(aD:Tryz.prog.inits.idxOf? f=P)(aE:fn.results=#[.tmp k])(u:s.vars=[])(g:∀d0 d1 d2,s.fn H ([d0,d1,d2]++[])={results:=[.lit<|.bool K],args:=[d0,d1,d2]})(aC:∀(W:y)(t0:aj),vr ⟨W.heap,W.os,W.output⟩ t0->Zero (nA W)->0<(nA W).heap.size->∀(vB vL vS vC:X)(a b c:Y)(C N F:X)(a2 b2 c2:Y)(nb:V)(fb:V->Y)(nl:V)(ts:V->jE)(ns:V)(fs:V->Y)(al:V)(av:V->Y)(T:V)(ad:V->jE)(aw:V)(am:V->Y)(nc:V)(fO:V->V->Y)(gO:V->I),AK (nA W) vB vL vS nb fb nl ts ns fs->AK (nA W) C N F al av T ad aw am->nl+T<=250000->Du (nA W) vC nc fO gO->nc<=199000->nO (kJ ⟨W.heap,W.os,W.output⟩) J f #[t #[vB,a,b,c,vL,vS],t #[C,a2,b2,c2,N,F],vC] (nA W) λr R=>r=K)(W:y)(base:V)(e:Z X)(ds gs:L<|DataW H)(aa:L MemPlace)(n:∀(j:V)aP v,fn.params[j]?=S aP->e[j]?=S v->Value.okWide J W .any base aP v)(hW:DataW.Whole enc J fn.params.toList s.vars D W e.toList ds gs aa)(hk:Rows.uptoSmall H (ds++gs)=K)(hL:laidMetH J [("orderly/code.steps",Rows.laid_orderly_code_steps)] W)(aL:W.ShapedOpen J):∃aF last o R t',runNT J (aF+1) (solo (G (Frame.enter J f e .normal) []) W) #[]=(.ended o R,t')/\runN J aF (solo (G (Frame.enter J f e .normal) []) W)=.next last/\step J last=.ended o R/\Conc.Good J (λv W'=>s.post enc J fn D K D D W e v W') last o R t':=by
 have aA:=hW;obtain⟨p,q,aI,hV,rfl,aJ,aN⟩:=hW;have hA:=aI;rw[ac]at hA n;rw[u]at hV;obtain⟨v0,v1,v2,d0,d1,d2,p0,p1,p2,rfl,rfl,rfl,h0,h1,h2⟩:=trodAll_three hA;obtain⟨rfl,rfl⟩:=trodVars_none hV;simp only[List.append_nil]at aA hk aJ aN;have aQ:=aay hk;obtain⟨nb,nl,ns,fb,fs,ts,a,b,c,vB,vL,vS,rfl,hM,n1⟩:=Lj (n 0 28 v0 rfl rfl) h0 A;obtain⟨al,T,aw,av,am,ad,a2,b2,c2,C,N,F,rfl,aK,n2⟩:=Lj (n 1 28 v1 rfl rfl) h1 A;obtain⟨nc,fO,gO,hC,aG⟩:=Oo h2 (okWide_slice Tryz.underlying40<|n 2 40 v2 rfl rfl) A;obtain⟨t0,i,aB⟩:=OW hL aL;have an:=λx d=>by simpa using aA.lt x d
 have hb:=aC W t0 aB (QA i) (Nz i) _ _ _ _ a b c _ _ _ a2 b2 c2 nb fb nl ts ns fs al av T ad aw am nc fO gO hM aK A hC aG;rw[<-Ku,<-Ku]at hb;obtain⟨aF,last,o,R,t',e1,e2,e3,e4⟩:=OT (mv _).nW (mv _).nR.mI aM aD aE (QV i #[t #[vB,a,b,c,vL,vS],t #[C,a2,b2,c2,N,F],v2]) (by simpa using hb);refine⟨aF,last,o,R,t',e1,e2,e3,e4.mono λv hF=>?_⟩;obtain⟨rfl,aO⟩:=hF;have m:EI W R:=aO;have l:∀x∈p0++p1++p2,(λb=>decide<|b<W.heap.size) x.block=K:=λx d=>pC
 have a0:DataW.Trod enc J R 0 (λb=>decide<|b<W) K 28 (t #[vB,a,b,c,vL,vS]) d0 p0:=ao EC JM Kt h0 (λx d=>m.mW<|an x<|by simp[d]) λx d=>l x (by simp[d]);have a1:DataW.Trod enc J R 0 (λb=>decide<|b<W) K 28 (t #[C,a2,b2,c2,N,F]) d1 p1:=ao EC JM Kt h1 (λx d=>m.mW<|an x<|by simp[d]) λx d=>l x (by simp[d]);have a3:DataW.Trod enc J R 0 (λb=>decide<|b<W) K 40 v2 d2 p2:=ao EC QL N9 h2 (λx d=>m.mW<|an x<|by simp[d]) λx d=>l x (by simp[d]);refine⟨[d0,d1,d2],[],p0++p1++p2,[],p0++p1++p2,[],aA,?_,?_,?_,World.keptBut_mono (λx d=>⟨d,Or.inr<|by simpa using d⟩)<|m.PU _,λh=>by cases h⟩;.rw[g,aH];exact trodAll_cons_mk (shut_bool Tryz.underlying4 _) trodAll_mk0
 .rw[g,ac];simpa only[List.append_assoc]using trodAll_mk3 a0 a1 a3
 .rw[g,u];rfl
end
def Yz(os:Os){H:Type}(b:aj×X->H):∃a,DataW.whole b J ((ay J 600 os).forCall (λ_ _=>0) ⟨#[],#[zS,zS,aq P 0 0],[]⟩).memory Tryz.f11.params.toList Rows.allSpec.vars D #[zS,zS,aq P 0 0].toList 8=S ([.agg [.agg [.nil,.lit<|.int .i64 0,.lit<|.int .i64 0,.lit<|.int .i64 0],.nil,.nil],.agg [.agg [.nil,.lit<|.int .i64 0,.lit<|.int .i64 0,.lit<|.int .i64 0],.nil,.nil],.nil],[],a):=⟨[],vI⟩
def afr(os:Os)(d:os.Started)(H:Type)(f:aj×X->H)(F:Stop.Interp):ReturnsInLeavingWide {} ar os 11 .any ((Rows.OpenSpec.upto Rows.allSpec).preRow f J B Rows.allUptoRow.domain D Rows.allUptoRow.laid)<|((Rows.OpenSpec.upto Rows.allSpec).at F).post f J B D K D D:=by obtain⟨m,hx⟩:=Yz os f;refine returnsInLeavingWide_of_good (C:=ar) PM d (witness_row_at (enc:=f) (C:=ar) D (ay J 600 os) #[zS,zS,aq P 0 0] rfl vI vI vI<|OpenSpec.preRow_of_cond 8 hx vI (λk hk=>by cases hk;kernel_rfl) vI<|Pt os _) ?_;intro w tape i _ G _ N j _;let⟨_,_,_,T,h,_,_,_,_,l⟩:=N;obtain rfl:B=T:=au<|Eq.trans Tryz.func11.symm h;let⟨⟨p,hl⟩,_⟩:=j;obtain⟨ds,gs,e,hw,_,hk⟩:=OpenSpec.pre_parts p;have q:=DataW.Whole.of_heap (w':=w.forCall tape i) (by rfl) hw;obtain⟨av,last,o,w',t',h1,h2,h3,h4⟩:=X5 (s:=Rows.allSpec) (k:=6) ak az vI vI rfl rfl (λ_ _ _=>rfl) (λW t0 h0 hZ g vB vL vS vC a b c r R n a2 b2 c2 nb fb nl ts ns fs ad aa am an ac al nc fO gO hM u nt hC x=>ahE h0 (nA W) hZ g vB vL vS vC a b c r R n a2 b2 c2 hM u nt hC x) (w.forCall tape i) w i.args ds gs e l q (hk _ rfl) (hl.of_heap<|by rfl) G;exact⟨av,last,o,w',t',h1,h2,h3,h4.mono λv p=>ChangeSpec.post_blind p⟩
def afl:Rows.AllUptoSaid:=OX 11 B rfl rfl rfl rfl rfl rfl rfl ⟨rfl,rfl,rfl,rfl,rfl⟩ rfl rfl rfl rfl rfl vI ak vI (of_decide_eq_true vI) (by unfold Func.isWrapper;first|(rw[rW<|by decide+kernel];kernel_rfl)|(rw[BW<|by decide+kernel];exact⟨rfl,rfl⟩)) λos a H b F=>by rw[OpenClaim.pre_eq_preRow];exact afr os a H b F
def abd(f:FuncId)(fn:Func)(e:Tryz.pinned.checked.prog.funcNamed "orderly/orderlylaw.All"=S f)(a:Tryz.pinned.checked.prog.funcs[f]?=S fn):D=Tryz.pinned.checked.prog.looks []/\∀(j:V)b,fn.params[j]?=S b->Tryz.pinned.checked.prog.wantsStandIn b=D:=by
 obtain rfl:f=11:=au ((show Tryz.prog.funcNamed "orderly/orderlylaw.All"=S 11 by kernel_rfl).symm.trans e)|>.symm;obtain rfl:fn=B:=(au<|Eq.trans Tryz.func11.symm a).symm;refine⟨vI,λj b d=>?_⟩;rw[az]at d;have c:=Array.mem_of_getElem? d;simp at c;rcases c with rfl|rfl;.exact(show Tryz.prog.wantsStandIn 28=D by kernel_rfl)
 .exact(show Tryz.prog.wantsStandIn 40=D by kernel_rfl)
def aoc:Rows.AllUptoCardSaid:=ON _ _ _ _ afl vI allUpto_row_tie rfl ⟨rfl,rfl⟩ vI rfl abd vI
end
end Go.Proofs.YtldeiiffabfmeaaGreatDoor.Kp
namespace Go.Proofs.YtldeiiffabfmeaaGreatDoor
theorem all_holds : Rows.AllUptoCardSaid := Kp.aoc
end Go.Proofs.YtldeiiffabfmeaaGreatDoor
