/- - -/
import Derived.Deep.MidRow
import Derived.OrdersHeld
import Derived.Test.YtldeiiffabfmeaaGreatDoorAlm
set_option linter.all false
set_option maxRecDepth 100000
set_option maxHeartbeats 4000000
open Go renaming undef->q,World->Y,Value->E,Code->ae,Exit->aE,Question->aI,Oper->aM,Regrown->bg
open Option renaming some->G,none->H,getD_some->ah
open Go.Value renaming int->J,pointer->U,bool->Z,agg->m,slice->az
open Go.IntKind renaming i64->L
open Go.Proofs.Tryz renaming prog->W,f35->an,f33->aA,zeroCells61->aN,underlying61->bq,underlying73->bA
open Bool renaming false->u,true->D,and_eq_true->bl
open Go.Exit renaming normal->l
open Go.Operand renaming tmp->ai,const->bj
open Go.Code renaming seq->aj,region->aF,cond->aK,block->bd,wp->bB
open List renaming range->ak,map_cons->ao,map_nil->aq,size_toArray->aJ,extract_toArray->aP,extract_eq_take_drop->aQ,take_succ_cons->aU,take_zero->aV,drop_zero->aW,getD_eq_getElem?_getD->bm,all_eq_true->bu
open List.range renaming loop->ar
open Or renaming inl->au
open Nat renaming reduceEqDiff->ax,le_refl->aG,lt_of_lt_of_le->aH,sub_zero->aX,zero_add->aZ,le_trans->bn
open Go.Obj renaming cells->ay
open Go.World renaming rangeAt_setCells_apart->aD,frozen?->aY,cell?_setCell_other->bh,cell?->bw,block_lt_of_cell?->bz
variable{x y b c d f h i:Nat}{j n:Y}{p:List Nat}{s:Go.Act}{t z A B:E}{C F:ae}
namespace Go.Proofs.YtldeiiffabfmeaaGreatDoor
noncomputable section
open Go.RowKit Go.Maps Go.Rel
def l7:ae:=iA eL
def lB:ae:=iL<|iA<|iy eL
def l8:ae:=iy<|iy eL
def l9:ae:=iA lB
def A8:ae:=iy lB
def OR:eL=aj l7 (aj (bd 1<|aj l9 A8) l8):=by kernel_rfl
def U3:l9=aF 9 (jV l9) D:=by kernel_rfl
def Ih:qW .any (jV l9) 16 [16,17]=D/\qW .text (jV l9) 16 [16,17]=D/\qW .gc (jV l9) 16 [16,17]=D:=⟨by kernel_rfl,by kernel_rfl,by kernel_rfl⟩
def TI(a:Bool):uF a (jV l9) 16 [16,17]:=⟨λ_=>sC Ih.1,λ_ _=>⟨sC Ih.2.1,sC Ih.2.2⟩⟩
def Zm:(jV l9)[16]?=G (opAt (opsL l9) 16)/\(jV l9)[17]?=G (opAt (opsL l9) 17)/\(opAt (opsL l9) 16).op=.call ⟨.value<|.func 36,#[ai 70,ai 75,ai 80,ai 85],#[57,3,3,3]⟩/\(opAt (opsL l9) 16).guard=H/\(opAt (opsL l9) 16).dst=G 86/\(opAt (opsL l9) 17).op=.assign (ai 86)/\(opAt (opsL l9) 17).guard=H/\(opAt (opsL l9) 17).dst=G 7:=⟨by kernel_rfl,by kernel_rfl,by kernel_rfl,by kernel_rfl,by kernel_rfl,by kernel_rfl,by kernel_rfl,by kernel_rfl⟩
def tu:List Int:=[1,1,0,1,1,0,1,2,0,1,3,0,0,1,0,0,2,0,0,3,1,0,4,1,0,5,0,1,4,0,1,5,0,1,2,0,1,5,0]
def ags:((ak 13).all λk=>match xo[k]? with|G x=>(oE tu (k*3)==(x.1:Nat))&&(oE tu (k*3+1)==(x.2.1:Nat))&&(oE tu (k*3+2)==(x.2.2:Nat))&&decide (x.1<=1)&&decide (1<=x.2.1)&&decide (x.2.1<=5)&&decide (x.2.2<=1)|H=>u)=D:=by kernel_rfl
def Vr{k:Nat}{x:Nat×Nat×Nat}(h:xo[k]?=G x):oE tu (k*3)=(x.1:Nat)/\oE tu (k*3+1)=(x.2.1:Nat)/\oE tu (k*3+2)=(x.2.2:Nat)/\x.1<=1/\1<=x.2.1/\x.2.1<=5/\x.2.2<=1:=by have hk:k<13:=(List.getElem?_eq_some_iff.1 h).1;have:=bu.1 ags k (by simpa using hk);rw[h]at this;simp only[bl,beq_iff_eq,decide_eq_true_eq]at this;obtain⟨⟨⟨⟨⟨⟨g,c⟩,f⟩,a⟩,e⟩,b⟩,d⟩:=this;exact⟨g,c,f,a,e,b,d⟩
def JG(a:List Int)(h:x<a.length):lc (a.map<|J L) x=J L (oE a x):=by unfold lc oE;rw[bm,bm,List.getElem?_map];simp[h]
def afI(e N:Nat)(k:Nat)(hk:k<13)(P f h:Int)(w:Y)(c0:w.cell? ⟨N,k*3,H⟩=G (J L P))(c1:w.cell? ⟨N,k*3+1,H⟩=G (J L f))(c2:w.cell? ⟨N,k*3+2,H⟩=G (J L h))(g:Nat->E):(aF 9 ((jV l9).extract 0 16) D).wp W (λex a j=>ex=l/\a.tmps.size=156/\a.defers=[]/\a.tmps.getD 2 q=U (G ⟨e,0,H⟩)/\a.tmps.getD 5 q=az (G ⟨N,0,H⟩) 13 13/\a.tmps.getD 6 q=J L k/\a.tmps.getD 70 q=U (G ⟨e,0,H⟩)/\a.tmps.getD 75 q=J L P/\a.tmps.getD 80 q=J L f/\a.tmps.getD 85 q=J L h/\iD (λ_=>True) w j) ⟨fr 156<|upd (upd (upd g 2<|U<|G ⟨e,0,H⟩) 5<|az (G ⟨N,0,H⟩) 13 13) 6<|J L k,[]⟩ w:=by
 simp only[fr,upd,ak,ar,ao,aq,ax,reduceIte];have i1:(0:Int)<=(k:Int):=by omega
 have i2:(k:Int)<13:=by omega
 simp only[jV,l9,lB,eL,oT,aA,ah,iA,iy,iL,ja,aP,aQ,aU,aV,aW,aX];have p:=cell_regrown c0;have o:=cell_regrown c1;have n:=cell_regrown c2;clear c0 c1 c2;refine wp_region_quiet_below (by kernel_rfl) (by kernel_rfl) ?_;repeat(go_big_quiet_step(fail))
 refine wpQuiet_nil ?_;intro _ c;obtain⟨⟨i,d⟩,b⟩:=c;subst b;exact⟨rfl,rfl,rfl,rfl,rfl,rfl,rfl,rfl,rfl,rfl,iD.jF<|below_regrown w i d⟩
def UL(e:Nat)(w:Y)(g:Nat->E):e5.wp W (λex a b=>ex=l/\a.tmps.size=156/\a.defers=[]/\a.tmps.getD 2 q=U (G ⟨e,0,H⟩)/\a.tmps.getD 5 q=az (G ⟨w.heap.size,0,H⟩) 13 13/\b=w.alloc (ay (tu.map<|J L).toArray 49)) ⟨fr 156<|upd g 2<|U<|G ⟨e,0,H⟩,[]⟩ w:=by simp only[fr,upd,ak,ar,ao,aq,ax,reduceIte];simp only[e5,oT,aA,ah,iA,iy];go_wp2_with fail;rfl
def acM(w:Y):(Op.equalIn 10000 73 (m #[J L 5,J L 7,J L 12,J L 0])<|m #[J L 5,J L 7,J L 12,J L 0]).run W w=.ok D w:=by kernel_rfl
def adD(w:Y):(Op.equalIn 10000 73 (m #[J L 12,J L 0,J L 0,J L 0])<|m #[J L 12,J L 0,J L 0,J L 0]).run W w=.ok D w:=by kernel_rfl
def X8(z:Nat)(O:Nat->Nat)(w:Y)(e:Nat)(M N:E)(K R:Nat)(f:Nat->E)(h:iS z O w e n8 M N K R f<|qj 13)(g:Nat->E):eZ.wp W (λex a w'=>ex=.ret/\a.tmps.getD 0 q=Z D/\iD (λ_=>True) w w') ⟨fr 156<|upd g 2<|U<|G ⟨e,0,H⟩,[]⟩ w:=by
 simp only[fr,upd,ak,ar,ao,aq,ax,reduceIte];have s:=IK 13 (by omega);have S:∀p,p<=n8.D.nb->∀x∈((qj 13).part p).opn,x.iz<n8.D.nl:=λp F x hx=>aH ((s.e.part p F).low x hx) (s.e.part p F).mN;have T:∀p,p<=n8.D.nb->((qj 13).part p).opn.length<=8:=λp F=>bn (s.e.part p F).win s.H.W.2;have hn:((qj 13).part 1).n<=100000:=by have:=(s.e.part 1<|by decide).cnt;have:=(s.e.part 1<|by decide).mN;have:=s.H.G.nl;omega
 simp only[eZ,oT,aA,ah,iA,iy];go_wp2_with fail;have q0:=AY z O w e n8 M N K R f (qj 13) h (by decide) (by decide) 0 (by decide) S T;rw[acv]at q0;refine Calls.mono q0 ?_;clear q0;rintro r w1⟨rfl,v⟩;have h1:=h.below v;have Q:Below w1.heap.size w1<|w1.alloc<|ay #[Z D,Z u,J L 5,J L 7,J L 12,J L 0] 75:=(Below.refl _ _).alloc (aG _) _;have rA:=km w1 [Z D,Z u,J L 5,J L 7,J L 12,J L 0] 75;have V:=h1.below Q;go_wp2_with fail;have q1:=AY z O (w1.alloc<|ay #[Z D,Z u,J L 5,J L 7,J L 12,J L 0] 75) e n8 M N K R f (qj 13) V (by decide) (by decide) 1 (by decide) S T;rw[acB]at q1;refine Calls.mono q1 ?_;clear q1;rintro r i⟨rfl,o⟩;have B:=rA.below o;have h3:=V.below o;have P:Below i.heap.size i<|i.alloc<|ay #[Z D,Z u,J L 12,J L 0,J L 0,J L 0] 75:=(Below.refl _ _).alloc (aG _) _;have rB:=km i [Z D,Z u,J L 12,J L 0,J L 0,J L 0] 75;have C:=B.alloc<|ay #[Z D,Z u,J L 12,J L 0,J L 0,J L 0] 75;have h4:=h3.below P;have A:iD (λ_=>True) w<|i.alloc<|ay #[Z D,Z u,J L 12,J L 0,J L 0,J L 0] 75:=(((iD.jF v).trans<|iD.jF Q).trans<|iD.jF o).trans<|iD.jF P;clear h1 V h3 rA B Q P v o h;go_wp2_with fail;have q2:=CE z O _ e n8 M N K R f (qj 13) h4 (by decide) 1 (by decide) hn;rw[agk]at q2;refine Calls.mono q2 ?_;clear q2;rintro r d⟨aT,aa,rfl,I,k⟩;have X:∃t,aT=G ⟨t,0,H⟩:=by rcases I.2 with⟨_,y⟩|⟨t,cap,al,y,_⟩;(.cases y);.injection y with y;exact⟨t,y⟩
 obtain⟨t,rfl⟩:=X;have t0:d.cell? ⟨t,0,H⟩=G (J L 60):=I.cells (g:=t) rfl 0 _ rfl;have t1:d.cell? ⟨t,1,H⟩=G (J L 12):=I.cells (g:=t) rfl 1 _ rfl;have c:=C.below k;have b:=rB.below k;have x0:d.cell? ⟨w1.heap.size,0,H⟩=G (Z D):=c.cell (j:=0) (by simp);have x1:d.cell? ⟨w1.heap.size,1,H⟩=G (Z u):=c.cell (j:=1) (by simp);have x2:d.cell? ⟨w1.heap.size,2,H⟩=G (J L 5):=c.cell (j:=2) (by simp);have x3:d.cell? ⟨w1.heap.size,3,H⟩=G (J L 7):=c.cell (j:=3) (by simp);have x4:d.cell? ⟨w1.heap.size,4,H⟩=G (J L 12):=c.cell (j:=4) (by simp);have x5:d.cell? ⟨w1.heap.size,5,H⟩=G (J L 0):=c.cell (j:=5) (by simp);have y0:d.cell? ⟨i.heap.size,0,H⟩=G (Z D):=b.cell (j:=0) (by simp);have y1:d.cell? ⟨i.heap.size,1,H⟩=G (Z u):=b.cell (j:=1) (by simp);have y2:d.cell? ⟨i.heap.size,2,H⟩=G (J L 12):=b.cell (j:=2) (by simp);have y3:d.cell? ⟨i.heap.size,3,H⟩=G (J L 0):=b.cell (j:=3) (by simp);have y4:d.cell? ⟨i.heap.size,4,H⟩=G (J L 0):=b.cell (j:=4) (by simp);have y5:d.cell? ⟨i.heap.size,5,H⟩=G (J L 0):=b.cell (j:=5) (by simp);have ad:=A.trans<|iD.jF k;clear C rB c b I k h4 A s S T hn;generalize w1.heap.size=N1 at*;generalize i.heap.size=N2 at*;have am:=acM;have ac:=adD;simp only[List.length_cons,List.length_nil];go_wp2_with fail
def aeO(e N k:Nat)(hk:k<13)(w:Y)(g:Nat->E):l7.wp W (λex a b=>ex=l/\a.tmps.size=156/\a.defers=[]/\a.tmps.getD 2 q=U (G ⟨e,0,H⟩)/\a.tmps.getD 5 q=az (G ⟨N,0,H⟩) 13 13/\a.tmps.getD 6 q=J L k/\b=w) ⟨fr 156<|upd (upd (upd g 2<|U<|G ⟨e,0,H⟩) 5<|az (G ⟨N,0,H⟩) 13 13) 6<|J L k,[]⟩ w:=by
 simp only[fr,upd,ak,ar,ao,aq,ax,reduceIte];have i2:(k:Int)<13:=by omega
 simp only[l7,eL,oT,aA,ah,iA,iy,iL,ja];go_wp2
def Z5(e N k:Nat)(w:Y)(g:Nat->E):A8.wp W (λex a b=>ex=l/\a.tmps.size=156/\a.defers=[]/\a.tmps.getD 2 q=U (G ⟨e,0,H⟩)/\a.tmps.getD 5 q=az (G ⟨N,0,H⟩) 13 13/\a.tmps.getD 6 q=J L k/\b=w) ⟨fr 156<|upd (upd (upd (upd g 2<|U<|G ⟨e,0,H⟩) 5<|az (G ⟨N,0,H⟩) 13 13) 6<|J L k) 7<|Z D,[]⟩ w:=by simp only[fr,upd,ak,ar,ao,aq,ax,reduceIte];simp only[A8,lB,eL,oT,aA,ah,iA,iy,iL,ja];go_wp2
def aeT(e N k:Nat)(hk:k<13)(w:Y)(g:Nat->E):l8.wp W (λex a b=>ex=l/\a.tmps.size=156/\a.defers=[]/\a.tmps.getD 2 q=U (G ⟨e,0,H⟩)/\a.tmps.getD 5 q=az (G ⟨N,0,H⟩) 13 13/\a.tmps.getD 6 q=J L ((k+1:Nat):Int)/\b=w) ⟨fr 156<|upd (upd (upd g 2<|U<|G ⟨e,0,H⟩) 5<|az (G ⟨N,0,H⟩) 13 13) 6<|J L k,[]⟩ w:=by
 simp only[fr,upd,ak,ar,ao,aq,ax,reduceIte];have i2:(k:Int)<13:=by omega
 simp only[l8,eL,oT,aA,ah,iA,iy,iL,ja];go_wp2
def YS(e:Nat)(w:Y)(g:Nat->E):e3.wp W (λex a b=>ex=l/\a.tmps.size=156/\a.defers=[]/\a.tmps.getD 2 q=U (G ⟨e,0,H⟩)/\b=w) ⟨fr 156<|upd (upd (upd g 2<|U<|G ⟨e,0,H⟩) 3<|J L 0) 4<|J L 0,[]⟩ w:=by simp only[fr,upd,ak,ar,ao,aq,ax,reduceIte];simp only[e3,oT,aA,ah,iA,iy];go_wp2
def aac(e N:Nat)(w:Y)(g:Nat->E):e6.wp W (λex a b=>ex=l/\a.tmps.size=156/\a.defers=[]/\a.tmps.getD 2 q=U (G ⟨e,0,H⟩)/\a.tmps.getD 5 q=az (G ⟨N,0,H⟩) 13 13/\a.tmps.getD 6 q=J L ((0:Nat):Int)/\b=w) ⟨fr 156<|upd (upd g 2<|U<|G ⟨e,0,H⟩) 5<|az (G ⟨N,0,H⟩) 13 13,[]⟩ w:=by simp only[fr,upd,ak,ar,ao,aq,ax,reduceIte];simp only[e6,oT,aA,ah,iA,iy];go_wp2
def tE{old:jL}{w:Y}{a:Act}{Q:aE->Act->Y->Prop}(i:Go.Rel.mD W (mZ rh) C=D)(A:Act->Y->Prop)(j:∀a w f d,A a w->A a (w.re f d))(h:∀f d,C.wp W (λe a b=>e=l/\A a b) a<|w.re f d)(hk:∀g b,A g b->jH (jb old) W p F Q g b):jH (jb old) W p (aj C F) Q a w:=by refine kz (jD old).fits (jD old).kg.jS<|wP (uS (jD old).fits (jD old).kg (Cl i) (λe a b f d c=>⟨c.1,j _ _ _ _ c.2⟩) (λe a b c=>by rw[c.1];trivial) h) ?_;rintro e a b⟨rfl,h⟩;exact hk a b h
def nH{old:jL}{w:Y}{a:Act}{Q:aE->Act->Y->Prop}(j:Go.Rel.mD W (mZ rh) C=D)(A:Act->Prop)(h:∀w,C.wp W (λe a f=>e=l/\A a/\f=w) a w)(hk:∀g,A g->jH (jb old) W p F Q g w):jH (jb old) W p (aj C F) Q a w:=tE j (λa f=>A a/\∃b d,f=w.re b d) (λa f b d c=>⟨c.1,by obtain⟨i,n,rfl⟩:=c.2;exact⟨b,d,rfl⟩⟩) (λb d=>iM (h _) λe a f c=>⟨c.1,c.2.1,b,d,c.2.2⟩)<|by rintro g f⟨k,b,d,rfl⟩;exact oP (hk g k) b d
def mR{old:jL}{w:Y}{a:Act}{Q:aE->Act->Y->Prop}(j:Go.Rel.mD W (mZ rh) C=D)(A:aE->Act->Y->Prop)(i:∀e a w b d,A e a w->A e a (w.re b d))(g:∀e a w,A e a w->Dp p e)(h:∀b d,C.wp W A a<|w.re b d)(hk:∀e c f,A e c f->Q e c f):jH (jb old) W p C Q a w:=wP (uS (jD old).fits (jD old).kg (Cl j) i g h) hk
def iD.re{w:Y}(h:iD (λ_=>True) w j)(a:Nat->aI->Nat)(d:Nat):iD (λ_=>True) w<|j.re a d:=⟨h.size,h.block⟩
def iD.sN{w:Y}{a:Nat->aI->Nat}{d:Nat}(h:iD (λ_=>True) (w.re a d) j):iD (λ_=>True) w j:=⟨h.size,h.block⟩
def Pb(w:Y)(a:Nat->aI->Nat)(d:Nat):iD (λ_=>True) w<|w.re a d:=⟨aG _,λ_ _ _=>rfl⟩
def sw.re{w:Y}{e:Nat}{i:iT}{a b c:Int}{K R:Nat}{M:Nat->Nat}{fs:Nat->Int}(h:sw x w e i a b c t z K R M y fs)(g:Nat->aI->Nat)(d:Nat):sw x (w.re g d) e i a b c t z K R M y fs:=have k:∀S,iD S w<|w.re g d:=λS=>⟨aG _,λ_ _ _=>rfl⟩;⟨h.lo,h.row.block rfl,h.vb.iR<|k _,h.vl.iR<|k _,h.tb.iR (k λ_=>True) λ_ _ _=>trivial,h.la.iR (k λ_=>True) λ_ _=>trivial,h.Gt,h.GW,h.res.block rfl,h.Io,h.part.block rfl,λp f=>⟨(h.ml p f).1,(h.ml p f).2.1,(h.ml p f).2.2.block rfl⟩,h.inc⟩
def iQ.re{w:Y}{k n:Nat}{f:Nat->Int}(h:iQ w t k n f)(e:Nat->aI->Nat)(d:Nat):iQ (w.re e d) t k n f:=by obtain⟨a,cap,b,g,c⟩:=h;exact⟨a,cap,b,g,c⟩
def lE.re{w:Y}{a b c:E}{t:iP}(h:lE w a b c z t)(e:Nat->aI->Nat)(d:Nat):lE (w.re e d) a b c z t:=⟨h.r.re e d,h.wr.re e d,h.g.re e d,h.c.re e d⟩
def lI.re{w:Y}{n:Nat}{ts:Nat->iP}(h:lI w z n ts)(f:Nat->aI->Nat)(d:Nat):lI (w.re f d) z n ts:=by obtain⟨a,cap,j,g,o⟩:=h;refine⟨a,cap,j,g,λp=>?_⟩;obtain⟨b,off,e,lt,k,c,t⟩:=o p;exact⟨b,off,e,lt,k,c,λi hi=>(t i hi).re f d⟩
def wu(a:Act)(hs:a.tmps.size=156)(hd:a.defers=[]):∃g:Nat->E,a=⟨#[g 0,g 1,g 2,g 3,g 4,g 5,g 6,g 7,g 8,g 9,g 10,g 11,g 12,g 13,g 14,g 15,g 16,g 17,g 18,g 19,g 20,g 21,g 22,g 23,g 24,g 25,g 26,g 27,g 28,g 29,g 30,g 31,g 32,g 33,g 34,g 35,g 36,g 37,g 38,g 39,g 40,g 41,g 42,g 43,g 44,g 45,g 46,g 47,g 48,g 49,g 50,g 51,g 52,g 53,g 54,g 55,g 56,g 57,g 58,g 59,g 60,g 61,g 62,g 63,g 64,g 65,g 66,g 67,g 68,g 69,g 70,g 71,g 72,g 73,g 74,g 75,g 76,g 77,g 78,g 79,g 80,g 81,g 82,g 83,g 84,g 85,g 86,g 87,g 88,g 89,g 90,g 91,g 92,g 93,g 94,g 95,g 96,g 97,g 98,g 99,g 100,g 101,g 102,g 103,g 104,g 105,g 106,g 107,g 108,g 109,g 110,g 111,g 112,g 113,g 114,g 115,g 116,g 117,g 118,g 119,g 120,g 121,g 122,g 123,g 124,g 125,g 126,g 127,g 128,g 129,g 130,g 131,g 132,g 133,g 134,g 135,g 136,g 137,g 138,g 139,g 140,g 141,g 142,g 143,g 144,g 145,g 146,g 147,g 148,g 149,g 150,g 151,g 152,g 153,g 154,g 155],[]⟩/\∀k,a.tmps.getD k q=g k:=by obtain⟨T,d⟩:=a;simp only at hs hd;subst hd;obtain⟨g,b,c⟩:=GO hs;exact⟨g,by rw[b];rfl,c⟩
def pH(e N:Nat)(a:Act):Prop:=a.tmps.size=156/\a.defers=[]/\a.tmps.getD 2 q=U (G ⟨e,0,H⟩)/\a.tmps.getD 5 q=az (G ⟨N,0,H⟩) 13 13
def ya(a:Y)(e N:Nat)(d c:E)(K R k:Nat)(w:Y):Prop:=∃O,nG 1 O w e n8 d c K R (qj k)/\O N=0/\iJ w N 49 39 (lc<|tu.map<|J L)/\(∀b,b<a.heap.size->O b=0)/\iD (λ_=>True) a w
def nG.re{O:Nat->Nat}{w:Y}{e:Nat}{c:iB}{K R:Nat}{b:iE}(h:nG x O w e c t z K R b)(a:Nat->aI->Nat)(d:Nat):nG x O (w.re a d) e c t z K R b:=h.iR (Pb w a d) λ_ _=>rfl
def ya.re{e N:Nat}{K R k:Nat}{w:Y}(h:ya j e N t z K R k w)(a:Nat->aI->Nat)(d:Nat):ya j e N t z K R k<|w.re a d:=by obtain⟨O,f,i,g,c,b⟩:=h;exact⟨O,f.re a d,i,g.block rfl,c,b.re a d⟩
noncomputable section
variable{e N k:Nat}{a:Act}
def PL(hk:k<13)(h:pH e N a)(d:a.tmps.getD 6 q=J L k)(w:Y):l7.wp W (λex c f=>ex=l/\(pH e N c/\c.tmps.getD 6 q=J L k)/\f=w) a w:=by obtain⟨p,v,i,b⟩:=h;obtain⟨g,rfl,t⟩:=wu a p v;rw[t]at i b d;rw[i,b,d];exact iM (aeO e N k hk w g) λex a f⟨q1,q2,s,o,n,j,r⟩=>⟨q1,⟨⟨q2,s,o,n⟩,j⟩,r⟩
def Tn(h:pH e N a)(c:a.tmps.getD 6 q=J L ((13:Nat):Int))(w:Y):l7.wp W (λex b n=>ex=.exit 0/\b.tmps.size=156/\b.defers=[]/\b.tmps.getD 2 q=U (G ⟨e,0,H⟩)/\n=w) a w:=by obtain⟨j,i,f,d⟩:=h;obtain⟨g,rfl,o⟩:=wu a j i;rw[o]at f d c;rw[f,d,c];simp only[l7,eL,oT,aA,ah,iA,iy,iL,ja];go_wp2
def Rq(h:pH e N a)(d:a.tmps.getD 6 q=J L k)(j:a.tmps.getD 7 q=Z D)(w:Y):A8.wp W (λex c b=>ex=l/\(pH e N c/\c.tmps.getD 6 q=J L k)/\b=w) a w:=by obtain⟨p,v,i,f⟩:=h;obtain⟨g,rfl,t⟩:=wu a p v;rw[t]at i f d j;rw[i,f,d,j];exact iM (Z5 e N k w g) λex a b⟨q1,q2,s,o,x,n,r⟩=>⟨q1,⟨⟨q2,s,o,x⟩,n⟩,r⟩
def afH(hk:k<13)(h:pH e N a)(d:a.tmps.getD 6 q=J L k)(w:Y):l8.wp W (λex c f=>ex=l/\(pH e N c/\c.tmps.getD 6 q=J L ((k+1:Nat):Int))/\f=w) a w:=by obtain⟨p,v,i,b⟩:=h;obtain⟨g,rfl,t⟩:=wu a p v;rw[t]at i b d;rw[i,b,d];exact iM (aeT e N k hk w g) λex a f⟨q1,q2,s,o,n,j,r⟩=>⟨q1,⟨⟨q2,s,o,n⟩,j⟩,r⟩
def agE(h:pH e N a)(w:Y):e6.wp W (λex c b=>ex=l/\(pH e N c/\c.tmps.getD 6 q=J L ((0:Nat):Int))/\b=w) a w:=by obtain⟨o,t,f,d⟩:=h;obtain⟨g,rfl,s⟩:=wu a o t;rw[s]at f d;rw[f,d];exact iM (aac e N w g) λex a b⟨q1,q2,r,n,j,i,p⟩=>⟨q1,⟨⟨q2,r,n,j⟩,i⟩,p⟩
def aaj(hk:k<13)(P b f:Int)(w:Y)(c0:w.cell? ⟨N,k*3,H⟩=G (J L P))(c1:w.cell? ⟨N,k*3+1,H⟩=G (J L b))(c2:w.cell? ⟨N,k*3+2,H⟩=G (J L f))(h:pH e N a)(j:a.tmps.getD 6 q=J L k):(aF 9 ((jV l9).extract 0 16) D).wp W (λex a o=>ex=l/\(pH e N a/\a.tmps.getD 6 q=J L k)/\(a.tmps.getD 70 q=U (G ⟨e,0,H⟩)/\a.tmps.getD 75 q=J L P/\a.tmps.getD 80 q=J L b/\a.tmps.getD 85 q=J L f)/\iD (λ_=>True) w o) a w:=by obtain⟨s,B,n,i⟩:=h;obtain⟨g,rfl,A⟩:=wu a s B;rw[A]at n i j;rw[n,i,j];exact iM (afI e N k hk P b f w c0 c1 c2 g) λex a o⟨q1,q2,y,t,z,r,v,x,p,d,c⟩=>⟨q1,⟨⟨q2,y,t,z⟩,r⟩,⟨v,x,p,d⟩,c⟩
end
def aeP(T:Array E):results aA T=pure (T.getD 0 q):=Go.Rel.results_tmp rfl T
def iK(a:Act){d t:Nat}(h:d≠t)(v:E):(a.put (G d) v).tmps.getD t q=a.tmps.getD t q:=by simp[Act.put,Array.getD_eq_getD_getElem?,h]
def put_defers(a:Act)(d:Option Nat)(v:E):(a.put d v).defers=a.defers:=by cases d<;>rfl
noncomputable section
variable{t0:TypeId}
def aaN{old:jL}(h0:oj old t0){w:Y}{e N k:Nat}{K R:Nat}(hk:k<13){a:Act}(h:pH e N a)(h6:a.tmps.getD 6 q=J L k)(hW:ya j e N t z K R k w)(Q:aE->Act->Y->Prop)(hQ:∀S n,pH e N S->S.tmps.getD 6 q=J L ((k+1:Nat):Int)->ya j e N t z K R (k+1) n->Q l S n):jH (jb old) W [0] eL Q a w:=by
 have F:=(jD old).fits;have C:=(jD old).kg;have B:=C.jS;obtain⟨x,hx⟩:∃x,xo[k]?=G x:=⟨_,List.getElem?_eq_getElem<|by exact hk⟩;obtain⟨x1,x2,x3,x4,x5,x6,x7⟩:=Vr hx;rw[OR];refine nH (by kernel_rfl) (λa=>pH e N a/\a.tmps.getD 6 q=J L k) (λw=>PL hk h h6 w) ?_;rintro a⟨h,h6⟩;refine kz F B<|qp F B<|kz F B ?_;obtain⟨O,hE,T,f,r,g⟩:=hW;have c0:w.cell? ⟨N,k*3,H⟩=G (J L<|x.1):=by rw[f.cell<|by omega,JG tu<|show k*3<39 by omega,x1]
 have c1:w.cell? ⟨N,k*3+1,H⟩=G (J L<|x.2.1):=by rw[f.cell<|by omega,JG tu<|show k*3+1<39 by omega,x2]
 have c2:w.cell? ⟨N,k*3+2,H⟩=G (J L<|x.2.2):=by rw[f.cell<|by omega,JG tu<|show k*3+2<39 by omega,x3]
 obtain⟨o1,o2,o3,o4,o5,o6,o7,o8⟩:=Zm;rw[U3];refine GI F C (R:=λa n=>(pH e N a/\a.tmps.getD 6 q=J L k)/\(a.tmps.getD 70 q=U (G ⟨e,0,H⟩)/\a.tmps.getD 75 q=J L (x.1:Nat)/\a.tmps.getD 80 q=J L (x.2.1:Nat)/\a.tmps.getD 85 q=J L (x.2.2:Nat))/\iD (λ_=>True) w n) (TI _) (by decide) (JC<|by kernel_rfl) (IH<|by kernel_rfl) (λa n i d c=>⟨c.1,c.2.1,c.2.2.re i d⟩) (λi d=>iM (aaj hk _ _ _ (w.re i d) c0 c1 c2 h h6) λex a n c=>⟨c.1,c.2.1,c.2.2.1,c.2.2.2.sN⟩) ?_;rintro b kk cs S n s _⟨⟨hA,am⟩,⟨ap,av,aw,ac⟩,o⟩;have aa:=hE.iR o λb s=>rfl;have M:(#[ai 70,ai 75,ai 80,ai 85]).map S.eval=#[U<|G ⟨e,0,H⟩,J L<|x.1,J L<|x.2.1,J L<|x.2.2]:=by simp only[List.map_toArray,ao,aq,oJ,ap,av,aw,ac]
 refine Reach.path F B o1 o3 o4 (pg<|by kernel_rfl) Tryz.func36 (by kernel_rfl) (by kernel_rfl) (by rw[M];exact Jf h0 (aG 1) aa (IK k<|by omega) _ _ _ x4 x5 x6 x7) ?_;rintro v V⟨rfl,O2,ad,A,y⟩;obtain⟨s1,s2⟩:=M6 hx;rw[s2,o5];refine Reach.Hc F B o2 (.inr o6) o7 trivial ?_;obtain⟨a1,a2,a3,a4⟩:=hA;rw[o8,oJ,m8 _<|by rw[a1];decide];refine Reach.last F B<|.stop ⟨l,_,_,rfl,?_,rfl⟩;have al:ya j e N t z K R (k+1) V:=by have X:=aH f.lt o.size;refine⟨O2,by rw[s1];exact ad,by rw[y N X];exact T,f.block ?_,λb s=>?_,⟨bn (bn g.size o.size) A.size,λb _ s=>?_⟩⟩;(.rw[A.block N (qD (aG 1) T) X,o.block N trivial f.lt]);(.have p:=aH s g.size;rw[y b<|aH p o.size];exact r b s);.have p:=aH s g.size;rw[A.block b (qD (aG 1)<|r b s)<|aH p o.size,o.block b trivial p,g.block b trivial s]
 generalize I:((S.put (G 86)<|Z D).put (G 7)<|Z D)=A4;have g1:pH e N A4:=by rw[<-I];exact⟨by rw[kx,kx];exact a1,by rw[put_defers,put_defers];exact a2,by rw[iK _<|by decide,iK _<|by decide];exact a3,by rw[iK _<|by decide,iK _<|by decide];exact a4⟩
 have g6:A4.tmps.getD 6 q=J L k:=by rw[<-I,iK _<|by decide,iK _<|by decide];exact am
 have g7:A4.tmps.getD 7 q=Z D:=by rw[<-I];exact m8 _ (by rw[kx,a1];decide)
 refine mR (by kernel_rfl) (λex a n=>ex=l/\(pH e N a/\a.tmps.getD 6 q=J L k)/\∃i d,n=V.re i d) (λex a n i d c=>⟨c.1,c.2.1,by obtain⟨P,d',rfl⟩:=c.2.2;exact⟨i,d,rfl⟩⟩) (λex a n c=>by rw[c.1];trivial) (λi d=>iM (Rq g1 g6 g7<|V.re i d) λex a n c=>⟨c.1,c.2.1,i,d,c.2.2⟩) ?_;rintro ex a5 w5⟨rfl,⟨q1,q6⟩,i,d,rfl⟩;show jH (jb old) W [0] l8 _ a5 _;refine oP ?_ i d;refine mR (by kernel_rfl) (λex a n=>ex=l/\(pH e N a/\a.tmps.getD 6 q=J L ((k+1)))/\∃i d,n=V.re i d) (λex a n i d c=>⟨c.1,c.2.1,by obtain⟨P,d',rfl⟩:=c.2.2;exact⟨i,d,rfl⟩⟩) (λex a n c=>by rw[c.1];trivial) (λi d=>iM (afH hk q1 q6<|V.re i d) λex a n c=>⟨c.1,c.2.1,i,d,c.2.2⟩) ?_;rintro ex a6 w6⟨rfl,⟨r1,r6⟩,P,d',rfl⟩;exact hQ a6 _ r1 r6<|al.re P d'
def RV(w:Y):e0.wp W (λex a b=>ex=l/\a=⟨#[Z u,q,q,q,q,q,q,q,q,q,q,q,q,q,q,q,q,q,q,q,q,q,q,q,q,q,q,q,q,q,q,q,q,q,q,q,q,q,q,q,q,q,q,q,q,q,q,q,q,q,q,q,q,q,q,q,q,q,q,q,q,q,q,q,q,q,q,q,q,q,q,q,q,q,q,q,q,q,q,q,q,q,q,q,q,q,q,q,q,q,q,q,q,q,q,q,q,q,q,q,q,q,q,q,q,q,q,q,q,q,q,q,q,q,q,q,q,q,q,q,q,q,q,q,q,q,q,q,q,q,q,q,q,q,q,q,q,q,q,q,q,q,q,q,q,q,q,q,q,q,q,q,q,q,q,q],[]⟩/\b=w) ⟨#[q,q,q,q,q,q,q,q,q,q,q,q,q,q,q,q,q,q,q,q,q,q,q,q,q,q,q,q,q,q,q,q,q,q,q,q,q,q,q,q,q,q,q,q,q,q,q,q,q,q,q,q,q,q,q,q,q,q,q,q,q,q,q,q,q,q,q,q,q,q,q,q,q,q,q,q,q,q,q,q,q,q,q,q,q,q,q,q,q,q,q,q,q,q,q,q,q,q,q,q,q,q,q,q,q,q,q,q,q,q,q,q,q,q,q,q,q,q,q,q,q,q,q,q,q,q,q,q,q,q,q,q,q,q,q,q,q,q,q,q,q,q,q,q,q,q,q,q,q,q,q,q,q,q,q,q],[]⟩ w:=by simp only[e0,oT,aA,ah,iA];go_wp2
def Zero.iR{w w':Y}(h:Zero w)(hk:iD (λ_=>True) w w')(c:0<w.heap.size):Zero w':=by intro o v b;refine h o v ?_;unfold bw at b⊢;rw[<-hk.block 0 trivial c];exact b
def Yc{old:jL}(h0:oj old t0)(w:Y)(hZ:Zero w)(o:0<w.heap.size):lj (jb old) W 33 #[] w λr h=>r=Z D/\iD (λ_=>True) w h:=by
 have F:=(jD old).fits;have C:=(jD old).kg;have B:=C.jS;refine lj.xM F B Tryz.func33 abO ?_;rw[Ys,afN];refine nH (by kernel_rfl) (λa=>a=⟨#[Z u,q,q,q,q,q,q,q,q,q,q,q,q,q,q,q,q,q,q,q,q,q,q,q,q,q,q,q,q,q,q,q,q,q,q,q,q,q,q,q,q,q,q,q,q,q,q,q,q,q,q,q,q,q,q,q,q,q,q,q,q,q,q,q,q,q,q,q,q,q,q,q,q,q,q,q,q,q,q,q,q,q,q,q,q,q,q,q,q,q,q,q,q,q,q,q,q,q,q,q,q,q,q,q,q,q,q,q,q,q,q,q,q,q,q,q,q,q,q,q,q,q,q,q,q,q,q,q,q,q,q,q,q,q,q,q,q,q,q,q,q,q,q,q,q,q,q,q,q,q,q,q,q,q,q,q],[]⟩) RV ?_;rintro a rfl;refine tE (by kernel_rfl) (λa h=>a.tmps.size=156/\a.defers=[]/\(∃z,a.tmps.getD 1 q=z/\lI h z 2 zj)/\iD (λ_=>True) w h) (λa h i d c=>⟨c.1,c.2.1,by obtain⟨z,q1,q2⟩:=c.2.2.1;exact⟨z,q1,q2.re i d⟩,c.2.2.2.re i d⟩) (λi d=>iM (aau<|w.re i d) λex a h c=>⟨c.1,c.2.1,c.2.2.1,c.2.2.2.1,c.2.2.2.2.sN⟩) ?_;rintro a w1⟨s1,s2,⟨z,s3,hL⟩,k1⟩;refine tE (by kernel_rfl) (λa h=>a.tmps.size=156/\a.defers=[]/\(∃e n j K R M,a.tmps.getD 2 q=U (G ⟨e,0,H⟩)/\a.tmps.getD 3 q=J L 0/\a.tmps.getD 4 q=J L 0/\sw (w1.heap.size+2) h e n8.D 2 1 1 n j K R M 2 uy)/\iD (λ_=>True) w1 h) (λa h i d c=>⟨c.1,c.2.1,by obtain⟨e,n,j,K,R,M,q1,q2,y,q4⟩:=c.2.2.1;exact⟨e,n,j,K,R,M,q1,q2,y,q4.re i d⟩,c.2.2.2.re i d⟩) (λi d=>?_) ?_;.obtain⟨g,rfl,x⟩:=wu a s1 s2;rw[x]at s3;rw[s3];exact iM (agf (w1.re i d) z (hL.re i d) g) λex a h c=>⟨c.1,c.2.1,c.2.2.1,c.2.2.2.1,c.2.2.2.2.sN⟩
 rintro a p⟨s1,s2,⟨e,n,j,K,R,M,s3,s4,s5,hN⟩,k2⟩;refine nH (by kernel_rfl) (λa=>a.tmps.size=156/\a.defers=[]/\a.tmps.getD 2 q=U (G ⟨e,0,H⟩)) (λw=>?_) ?_;.obtain⟨g,rfl,x⟩:=wu a s1 s2;rw[x]at s3 s4 s5;rw[s3,s4,s5];exact iM (YS e w g) λex a h c=>⟨c.1,⟨c.2.1,c.2.2.1,c.2.2.2.1⟩,c.2.2.2.2⟩
 rintro a⟨s1,s2,s3⟩;have Q:0<w1.heap.size+2:=by omega
 have ac:=(hZ.iR k1 o).iR k2<|aH o k1.size;have aa:=sw.nY hN (by decide) (by decide) (aG 1) (O:=λ_=>0) (qD (aG 1) rfl) ac Q;refine tE (by kernel_rfl) (λa h=>pH e p.heap.size a/\ya w e p.heap.size n j K R 0 h) (λa h i d c=>⟨c.1,c.2.re i d⟩) (λi d=>?_) ?_;.obtain⟨g,rfl,x⟩:=wu a s1 s2;rw[x]at s3;rw[s3];refine iM (UL e (p.re i d) g) ?_;rintro ex a h⟨q1,q2,y,q4,q5,rfl⟩;have A:iD (λ_=>True) p<|(p.re i d).alloc<|ay (tu.map<|J L).toArray 49:=((iD.refl _ _).alloc _).sN;have s:=xu (p.re i d) tu 49;refine⟨q1,⟨q2,y,q4,q5⟩,nF (ri 1 (λ_=>0) (w1.heap.size+2) n8.D.nb K R M) p.heap.size,aa.iR A λb Q=>qu _ Q,AO _<|aG _,s,λb Q=>?_,(k1.trans k2).trans A⟩;have ad:=aH Q k1.size;rw[qu _<|aH ad k2.size,IF _ _<|by omega]
 rintro a1 w3⟨hA,hW⟩;generalize p.heap.size=N at*;refine kz F B ?_;refine nH (by kernel_rfl) (λa=>pH e N a/\a.tmps.getD 6 q=J L ((0))) (agE hA) ?_;rintro a2⟨T,h6⟩;refine qp F B ?_;refine xg F B (λa h=>∃k,k<=13/\pH e N a/\a.tmps.getD 6 q=J L (k:Nat)/\ya w e N n j K R k h) (λa _=>13-(intOf<|a.tmps.getD 6 q).toNat) ⟨0,by omega,T,h6,hW⟩ ?_;rintro a3 S⟨k,hk,I,t,P⟩;by_cases V:k<13;.refine aaN h0 V I t P _ ?_;intro X w5 r1 r6 r7;refine⟨⟨k+1,by omega,r1,r6,r7⟩,?_⟩;rw[r6,t];simp only[intOf];omega
 . (obtain rfl:k=13:=by omega);rw[OR];refine kz F B<|mR (by kernel_rfl) (λex a h=>ex=.exit 0/\a.tmps.size=156/\a.defers=[]/\a.tmps.getD 2 q=U (G ⟨e,0,H⟩)/\∃i d,h=S.re i d) (λex a h i d c=>⟨c.1,c.2.1,c.2.2.1,c.2.2.2.1,by obtain⟨am,d',rfl⟩:=c.2.2.2.2;exact⟨i,d,rfl⟩⟩) (λex a h c=>by rw[c.1];exact List.mem_cons_self ..) (λi d=>iM (Tn I t<|S.re i d) λex a h c=>⟨c.1,c.2.1,c.2.2.1,c.2.2.2.1,i,d,c.2.2.2.2⟩) ?_;rintro ex X w5⟨rfl,q1,q2,y,i,d,rfl⟩;show jH (jb old) W [] eZ (QP aA λr h=>r=Z D/\iD (λ_=>True) w h) X _;refine oP ?_ i d;obtain⟨O,hE,ap,s,al,v⟩:=P;obtain⟨f,hf⟩:=hE.is;refine mR (by kernel_rfl) (λex a h=>ex=.ret/\a.tmps.getD 0 q=Z D/\iD (λ_=>True) S h) (λex a h i d c=>⟨c.1,c.2.1,c.2.2.re i d⟩) (λex a h c=>by rw[c.1];trivial) (λi d=>?_) ?_;(.obtain⟨g,rfl,x⟩:=wu X q1 q2;rw[x]at y;rw[y];exact iM (X8 1 O (S.re i d) e n j K R f (hf.re i d) g) λex a h c=>⟨c.1,c.2.1,c.2.2.sN⟩);.rintro ex a5 w6⟨rfl,r1,r2⟩;exact uE aeP (.inr rfl) r1 ⟨rfl,v.trans r2⟩
end
end
end Go.Proofs.YtldeiiffabfmeaaGreatDoor
namespace Go.Rel
noncomputable section
open Go.RowKit
noncomputable section
variable{P:Program}{ops:Array aM}{a:Act}{o:aM}
def Uw{K g:Act->Y->Prop}{Q f:aE->Act->Y->Prop}(h:∀a w,K a w->g a w)(d:∀e a w,e≠l->Q e a w->f e a w){w:Y}(b:o.wp P a w K Q):o.wp P a w g f:=by unfold Oper.wp at*;generalize(execOp a.eval o).run P w=r at*;cases r with|ok n j=>(cases n<;>simp only[Oper.upon]at b⊢<;>first|exact h _ _ b|exact d _ _ _ (by simp) b|exact Calls.mono b (λe i c=>by cases e<;>first|exact h _ _ c|exact d _ _ _ (by simp) c|(obtain⟨k,p,c⟩:=c;exact⟨k,p,d _ _ _ (by simp) c⟩))|exact Rows.mono b λ_ _ c=>h _ _ c|exact b)|halt x j=>cases x<;>simp only[Oper.upon]at b⊢<;>first|exact d _ _ _ (by simp) b|exact b
def FN{Q:aE->Act->Y->Prop}{n:Nat}{tail:List Nat}(g:n<=ops.size)(f:∀(i:Nat)o,ops[i]?=G o->o.guard=H):∀(s:List Nat)(a:Act)(w:Y),(∀i∈s,i<n)->wpOps P (ops.extract 0 n) (Exit.then (wpOps P ops Q tail) Q) s a w->wpOps P ops Q (s++tail) a w|[],a,w,_,h=>h|i::s,a,w,hs,h=>by have hi:=hs i (by simp);(have b:(ops.extract 0 n)[i]?=ops[i]?:=by rw[Array.getElem?_extract];simp[hi];intro h;omega);simp only[List.cons_append,wpOps]at h⊢;rw[b]at h;cases c:ops[i]? with|none=>rw[c]at h;exact FN g f s a w (λj d=>hs j<|by simp[d]) h|some o=>rw[c]at h;simp only[ua<|f i o c,if_true]at h⊢;rcases h with h|⟨v,r,k,x⟩;(.refine au<|Uw (λa w hk=>FN g f s a w (λj d=>hs j<|by simp[d]) hk) (λe a w t p=>?_) h;cases e with|normal=>exact absurd rfl t|_=>exact p);.exact .inr ⟨v,r,k,x⟩
def z9{id n:Nat}{tail:List Nat}{C:Y->Prop}{Q:aE->Act->Y->Prop}{w:Y}(z:P.follows .mixedOrders=D)(hcut:uF (P.follows .mixedOrders) ops n tail)(y:n<=ops.size)(F:(ops.toList.all λo=>o.guard.isNone)=D)(f:Region.lexB .any (ops.extract 0 n)=D)(I:C {w with drawn:=w.drawn+1})(h:wpQuiet P (ops.extract 0 n) C (λs=>∀j,C j->wpOps P ops Q tail s j) (ops.extract 0 n).toList a):(aF id ops D).wp P Q a w:=by
 have k:∀(i:Nat)o,ops[i]?=G o->o.guard=H:=by intro i o v;have:=bu.1 F o (by simpa using Array.mem_of_getElem? v);cases p:o.guard with|none=>rfl|some x=>rw[p]at this;cases this
 have key:∀(b:Array aM)(g:Act->Prop)(c:aE->Act->Y->Prop),(∀a w,C w->g a->c l a w)->Region.lexB .any b=D->wpQuiet P b C g b.toList a->∀d,wpOps P b c (Region.schedule (P.follows .mixedOrders) b d) a {w with drawn:=w.drawn+1}:=by intro b g c B f h d;simp only[Region.lexB,bl]at f;have:=wpAnyQ_lex (C:=C) (md:=.any) f.1 b.toList 0 (Array.replicate b.size u) a (by simp) (by simpa using f.2) h;simp only[Region.schedule,z,Bool.true_or,if_true];exact wpAny_sound b.size d _ a _<|wpAny_of_quiet (Q:=g) B _ _ _ _ I (by simpa using this)
 refine wp_region_draw λt=>?_;obtain⟨d,e,A⟩:=Ig hcut t;rw[e];exact FN y k _ _ _ A<|key _ _ _ (λs j r h=>h j r) f h d
end
end
end Go.Rel
namespace Go.Proofs.YtldeiiffabfmeaaGreatDoor
noncomputable section
open Go.RowKit Go.Maps Go.Rel
def lJ:ae:=Tryz.f35.body.getD .skip
def UC:Tryz.f35.body=G lJ:=rfl
def b0:ae:=iA lJ
def b1:ae:=iA<|iy lJ
def b2:ae:=iA<|iy<|iy lJ
def b3:ae:=iA<|iA<|iy<|iy<|iy lJ
def bL:ae:=ja<|iL<|iy<|iA<|iy<|iy<|iy lJ
def bZ:ae:=iy<|iy<|iy<|iy lJ
def aaA:lJ=aj b0 (aj b1<|aj b2<|aj (aj b3<|bd 0<|.loop bL) bZ):=by kernel_rfl
def b4:ae:=iA bL
def b5:ae:=iA<|iL<|iy bL
def b6:ae:=iA<|iy<|iL<|iy bL
def b7:ae:=iA<|iy<|iy<|iL<|iy bL
def bS:ae:=iL<|iy<|iy<|iy<|iL<|iy bL
def OH:bL=aj b4 (bd 1<|aj b5<|aj b6<|aj b7<|bd 2 bS):=by kernel_rfl
def nA(a:Act)(hs:a.tmps.size=148)(hd:a.defers=[]):∃g:Nat->E,a=⟨#[g 0,g 1,g 2,g 3,g 4,g 5,g 6,g 7,g 8,g 9,g 10,g 11,g 12,g 13,g 14,g 15,g 16,g 17,g 18,g 19,g 20,g 21,g 22,g 23,g 24,g 25,g 26,g 27,g 28,g 29,g 30,g 31,g 32,g 33,g 34,g 35,g 36,g 37,g 38,g 39,g 40,g 41,g 42,g 43,g 44,g 45,g 46,g 47,g 48,g 49,g 50,g 51,g 52,g 53,g 54,g 55,g 56,g 57,g 58,g 59,g 60,g 61,g 62,g 63,g 64,g 65,g 66,g 67,g 68,g 69,g 70,g 71,g 72,g 73,g 74,g 75,g 76,g 77,g 78,g 79,g 80,g 81,g 82,g 83,g 84,g 85,g 86,g 87,g 88,g 89,g 90,g 91,g 92,g 93,g 94,g 95,g 96,g 97,g 98,g 99,g 100,g 101,g 102,g 103,g 104,g 105,g 106,g 107,g 108,g 109,g 110,g 111,g 112,g 113,g 114,g 115,g 116,g 117,g 118,g 119,g 120,g 121,g 122,g 123,g 124,g 125,g 126,g 127,g 128,g 129,g 130,g 131,g 132,g 133,g 134,g 135,g 136,g 137,g 138,g 139,g 140,g 141,g 142,g 143,g 144,g 145,g 146,g 147],[]⟩/\∀k,a.tmps.getD k q=g k:=by obtain⟨T,d⟩:=a;simp only at hs hd;subst hd;obtain⟨g,b,c⟩:=GO hs;exact⟨g,by rw[b];rfl,c⟩
def jR(T C0 e b c d nx:Nat)(a:Act):Prop:=a.tmps.size=148/\a.defers=[]/\a.tmps.getD 2 q=U (G ⟨T,0,H⟩)/\a.tmps.getD 3 q=U (G ⟨C0,0,H⟩)/\a.tmps.getD 4 q=U (G ⟨e,0,H⟩)/\a.tmps.getD 5 q=U (G ⟨b,0,H⟩)/\a.tmps.getD 6 q=Z u/\a.tmps.getD 7 q=U (G ⟨c,0,H⟩)/\a.tmps.getD 8 q=U (G ⟨d,0,H⟩)/\a.tmps.getD 9 q=J L (nx:Nat)
end
noncomputable section
open Go.RowKit Go.Maps Go.Rel Go.Sort
def yS{P:Program}{ops:Array aM}{Q:aE->Act->Y->Prop}{o:aM}{a:Act}{w:Y}(c:ops[i]?=G o)(h:wpList P ops Q [o] a w):wpOps P ops Q [i] a w:=by have:=Ii (P:=P) (ops:=ops) (Q:=Q) [o] i (λj b=>by(have:j=0:=by simp at b;exact b);subst this;rw[Nat.add_zero,c];rfl);have e:[i]=List.range' i [o].length:=rfl;rw[e,this];exact h
def mJ:ae:=jG<|iy bS
def mE:ae:=jG<|iy mJ
def nM:ae:=jG<|iy mE
def ow:ae:=jG<|iy nM
def oX:ae:=jG<|iy ow
def pN:ae:=jG<|iy oX
def qF:ae:=jG<|iy pN
def rv:ae:=jG<|iy qF
def Ba:ae:=jG<|iy rv
def t12:ae:=iY<|iy mJ
def t15:ae:=iy<|iY<|iy mE
def t26:ae:=iY<|iy pN
def t28:ae:=iY<|iy qF
def afh:t12=aF 12 (jV t12) D:=by kernel_rfl
def agI:t15=aF 15 (jV t15) D:=by kernel_rfl
def aas:t26=aF 26 (jV t26) D:=by kernel_rfl
def Rv:t28=aF 28 (jV t28) D:=by kernel_rfl
def zi{ops:Array aM}{n:Nat}{tail:List Nat}(h:(qW .any ops n tail&&qW .text ops n tail&&qW .gc ops n tail)=D)(a:Bool):uF a ops n tail:=by simp only[bl]at h;exact⟨λ_=>sC h.1.1,λ_ _=>⟨sC h.1.2,sC h.2⟩⟩
noncomputable section
variable(T C0 RC RR Dd Rg nx I:Nat)(w:Y)(g:Nat->E)
def UB(A B:Nat)(V:Int)(R:A<4)(O:B<100)(v:w.cell? ⟨I,1,H⟩=G (J L (A:Nat)))(y:w.cell? ⟨I,2,H⟩=G (J L (B:Nat)))(k:w.cell? ⟨Dd,100+B,H⟩=G (J L V))(old:E)(s:w.cell? ⟨Rg,A,H⟩=G old)(r:∀o,w.frozen? ⟨Rg,o,H⟩=u)(f:Rg<w.heap.size):t12.wp W (λex a i=>ex=l/\jR T C0 RC RR Dd Rg nx a/\∃w1,Below w.heap.size w w1/\i=w1.setCell ⟨Rg,A,H⟩ (J L V)) ⟨fr 148<|upd (upd (upd (upd (upd (upd (upd (upd (upd g 2<|U<|G ⟨T,0,H⟩) 3<|U<|G ⟨C0,0,H⟩) 4<|U<|G ⟨RC,0,H⟩) 5<|U<|G ⟨RR,0,H⟩) 6<|Z u) 7<|U<|G ⟨Dd,0,H⟩) 8<|U<|G ⟨Rg,0,H⟩) 9<|J L (nx:Nat)) 10<|U<|G ⟨I,0,H⟩,[]⟩ w:=by
 simp only[fr,upd,ak,ar,ao,aq,ax,reduceIte];have i1:(0:Int)<=(A:Int):=by omega
 have i2:(A:Int)<4:=by omega
 have i3:(0:Int)<=(B:Int):=by omega
 have Q:(B:Int)<100:=by omega
 unfold jR;rw[afh];have M:=cell_regrown v;have F:=cell_regrown y;have z:=cell_regrown k;have x:=cell_regrown s;have t:∀d os o,(grow (redrawn w d) os).frozen? ⟨Rg,o,H⟩=u:=λd os o=>by have:=(below_regrown w d os).block Rg f;have h:=r o;unfold aY at h⊢;rw[this];exact h
 clear v y k s r;refine z9 (n:=8) (tail:=[8]) (C:=λi=>∃p:bg,i=grow (redrawn w p.d) p.os) (by kernel_rfl) (zi (by kernel_rfl) _) (by decide) (by kernel_rfl) (by kernel_rfl) ⟨⟨w.drawn+1,#[]⟩,by rw[grow_empty];rfl⟩ ?_;simp only[jV,t12,mJ,bS,bL,lJ,an,ah,iA,iy,iL,ja,iY,jG,aP,aQ,aU,aV,aW,aX];repeat(go_big_quiet_step(fail))
 refine wpQuiet_nil ?_;intro _ j;obtain⟨⟨e,b⟩,c⟩:=j;subst c;have P:=x e b;have N:=t e b;have K:=below_regrown w e b;generalize grow (redrawn w e) b=w1 at*;clear M F z x t;refine yS rfl ?_;go_wp2_with fail;exact⟨w1,K,rfl⟩
end
def B8{w:Y}{b:Nat}(c:∀o,w.frozen? ⟨b,o,H⟩=u)(a:b<w.heap.size):∀d os o,(grow (redrawn w d) os).frozen? ⟨b,o,H⟩=u:=λd os o=>by have:=(below_regrown w d os).block b a;have h:=c o;unfold aY at h⊢;rw[this];exact h
noncomputable section
variable(T C0 RC RR Dd Rg nx I:Nat)(w:Y)(g:Nat->E)
def Zw(A:Nat)(B:Int)(f:A<4)(h:w.cell? ⟨I,1,H⟩=G (J L (A:Nat)))(d:w.cell? ⟨I,2,H⟩=G (J L B))(old:E)(e:w.cell? ⟨Rg,A,H⟩=G old)(i:∀o,w.frozen? ⟨Rg,o,H⟩=u):(iY<|iy bS).wp W (λex a c=>ex=l/\jR T C0 RC RR Dd Rg nx a/\∃w1,Below w.heap.size w w1/\c=w1.setCell ⟨Rg,A,H⟩ (J L B)) ⟨fr 148<|upd (upd (upd (upd (upd (upd (upd (upd (upd g 2<|U<|G ⟨T,0,H⟩) 3<|U<|G ⟨C0,0,H⟩) 4<|U<|G ⟨RC,0,H⟩) 5<|U<|G ⟨RR,0,H⟩) 6<|Z u) 7<|U<|G ⟨Dd,0,H⟩) 8<|U<|G ⟨Rg,0,H⟩) 9<|J L (nx:Nat)) 10<|U<|G ⟨I,0,H⟩,[]⟩ w:=by
 simp only[fr,upd,ak,ar,ao,aq,ax,reduceIte];have i1:(0)<=(A):=by omega
 have i2:(A)<4:=by omega
 have b:=Below.refl w.heap.size w;unfold jR;simp only[bS,bL,lJ,an,ah,iA,iy,iL,ja,iY];go_wp2_with fail;exact⟨w,b,rfl⟩
def Qj(A:Nat)(e:A<100)(d:w.cell? ⟨I,1,H⟩=G (J L (A:Nat)))(old:E)(f:w.cell? ⟨Dd,A,H⟩=G old)(c:∀o,w.frozen? ⟨Dd,o,H⟩=u):(iA<|iY<|iy mE).wp W (λex a b=>ex=l/\(jR T C0 RC RR Dd Rg nx a/\a.tmps.getD 10 q=U (G ⟨I,0,H⟩))/\b=w.setCell ⟨Dd,A,H⟩ (Z D)) ⟨fr 148<|upd (upd (upd (upd (upd (upd (upd (upd (upd g 2<|U<|G ⟨T,0,H⟩) 3<|U<|G ⟨C0,0,H⟩) 4<|U<|G ⟨RC,0,H⟩) 5<|U<|G ⟨RR,0,H⟩) 6<|Z u) 7<|U<|G ⟨Dd,0,H⟩) 8<|U<|G ⟨Rg,0,H⟩) 9<|J L (nx:Nat)) 10<|U<|G ⟨I,0,H⟩,[]⟩ w:=by
 simp only[fr,upd,ak,ar,ao,aq,ax,reduceIte];have i1:(0)<=(A):=by omega
 have i2:(A)<100:=by omega
 unfold jR;simp only[mE,mJ,bS,bL,lJ,an,ah,iA,iy,iL,ja,iY,jG];go_wp2
def Vd(A B:Nat)(V:Int)(M:A<100)(y:B<4)(r:w.cell? ⟨I,1,H⟩=G (J L (A:Nat)))(x:w.cell? ⟨I,2,H⟩=G (J L (B:Nat)))(s:w.cell? ⟨Rg,B,H⟩=G (J L V))(old:E)(k:w.cell? ⟨Dd,100+A,H⟩=G old)(t:∀o,w.frozen? ⟨Dd,o,H⟩=u)(h:Dd<w.heap.size):t15.wp W (λex a i=>ex=l/\jR T C0 RC RR Dd Rg nx a/\∃w1,Below w.heap.size w w1/\i=w1.setCell ⟨Dd,100+A,H⟩ (J L V)) ⟨fr 148<|upd (upd (upd (upd (upd (upd (upd (upd (upd g 2<|U<|G ⟨T,0,H⟩) 3<|U<|G ⟨C0,0,H⟩) 4<|U<|G ⟨RC,0,H⟩) 5<|U<|G ⟨RR,0,H⟩) 6<|Z u) 7<|U<|G ⟨Dd,0,H⟩) 8<|U<|G ⟨Rg,0,H⟩) 9<|J L (nx:Nat)) 10<|U<|G ⟨I,0,H⟩,[]⟩ w:=by
 simp only[fr,upd,ak,ar,ao,aq,ax,reduceIte];have i1:(0)<=(A):=by omega
 have i2:(A)<100:=by omega
 have i3:(0)<=(B):=by omega
 have K:(B)<4:=by omega
 unfold jR;rw[agI];have F:=cell_regrown r;have N:=cell_regrown x;have z:=cell_regrown s;have v:=cell_regrown k;have ff:=B8 t h;refine z9 (n:=8) (tail:=[8]) (C:=λi=>∃p:bg,i=grow (redrawn w p.d) p.os) (by kernel_rfl) (zi (by kernel_rfl) _) (by decide) (by kernel_rfl) (by kernel_rfl) ⟨⟨w.drawn+1,#[]⟩,by rw[grow_empty];rfl⟩ ?_;simp only[jV,t15,mE,mJ,bS,bL,lJ,an,ah,iA,iy,iL,ja,iY,jG,aP,aQ,aU,aV,aW,aX];repeat(go_big_quiet_step(fail))
 refine wpQuiet_nil ?_;intro _ f;obtain⟨⟨e,b⟩,c⟩:=f;subst c;have P:=v e b;have O:=ff e b;have j:=below_regrown w e b;generalize grow (redrawn w e) b=w1 at*;refine yS rfl ?_;go_wp2_with fail;exact⟨w1,j,rfl⟩
def Uu(A:Nat)(n:A<100)(f:w.cell? ⟨I,1,H⟩=G (J L (A:Nat)))(old b:E)(k:w.cell? ⟨Dd,A,H⟩=G old)(d:w.cell? ⟨Dd,100+A,H⟩=G b)(p:∀o,w.frozen? ⟨Dd,o,H⟩=u)(c:I≠Dd):(iY<|iy nM).wp W (λex a i=>ex=l/\jR T C0 RC RR Dd Rg nx a/\i=(w.setCell ⟨Dd,A,H⟩<|Z u).setCell ⟨Dd,100+A,H⟩ (J L 0)) ⟨fr 148<|upd (upd (upd (upd (upd (upd (upd (upd (upd g 2<|U<|G ⟨T,0,H⟩) 3<|U<|G ⟨C0,0,H⟩) 4<|U<|G ⟨RC,0,H⟩) 5<|U<|G ⟨RR,0,H⟩) 6<|Z u) 7<|U<|G ⟨Dd,0,H⟩) 8<|U<|G ⟨Rg,0,H⟩) 9<|J L (nx:Nat)) 10<|U<|G ⟨I,0,H⟩,[]⟩ w:=by
 simp only[fr,upd,ak,ar,ao,aq,ax,reduceIte];have i1:(0)<=(A):=by omega
 have i2:(A)<100:=by omega
 have j:(w.setCell ⟨Dd,A,H⟩<|Z u).cell? ⟨I,1,H⟩=G (J L<|A):=by rw[bh _ _ _ _ λh=>c (congrArg Addr.block h).symm];exact f
 have e:(w.setCell ⟨Dd,A,H⟩<|Z u).cell? ⟨Dd,100+A,H⟩=G b:=by rw[bh _ _ _ _ λh=>by have:=congrArg Addr.off h;simp at this<;>omega];exact d
 unfold jR;simp only[nM,mE,mJ,bS,bL,lJ,an,ah,iA,iy,iL,ja,iY,jG];go_wp2
def XO(A X lo hi e go ng b:Nat)(hs:Nat->Bool)(v:Nat->Int)(M:A<4)(K:X<ng)(h:lo<=hi)(C:hi<=99)(f:w.cell? ⟨I,1,H⟩=G (J L (A:Nat)))(t:w.cell? ⟨I,2,H⟩=G (J L (X:Nat)))(z:w.cell? ⟨T,2,H⟩=G (az (G ⟨e,go,H⟩) ng b))(g0:w.cell? ⟨e,go+X*2,H⟩=G (J L (lo:Nat)))(B:w.cell? ⟨e,go+X*2+1,H⟩=G (J L (hi:Nat)))(j:DD w Dd 0 hs v)(old:E)(i:w.cell? ⟨Rg,A,H⟩=G old)(n:∀o,w.frozen? ⟨Rg,o,H⟩=u)(c:Rg<w.heap.size):(iY<|iy ow).wp W (λex a y=>ex=l/\jR T C0 RC RR Dd Rg nx a/\∃w1,Below w.heap.size w w1/\y=w1.setCell ⟨Rg,A,H⟩ (J L<|lQ hs v lo<|hi+1-lo)) ⟨fr 148<|upd (upd (upd (upd (upd (upd (upd (upd (upd g 2<|U<|G ⟨T,0,H⟩) 3<|U<|G ⟨C0,0,H⟩) 4<|U<|G ⟨RC,0,H⟩) 5<|U<|G ⟨RR,0,H⟩) 6<|Z u) 7<|U<|G ⟨Dd,0,H⟩) 8<|U<|G ⟨Rg,0,H⟩) 9<|J L (nx:Nat)) 10<|U<|G ⟨I,0,H⟩,[]⟩ w:=by
 simp only[fr,upd,ak,ar,ao,aq,ax,reduceIte];have i1:(0)<=(A):=by omega
 have i2:(A)<4:=by omega
 have i3:(0)<=(X):=by omega
 have O:(X)<(ng):=by omega
 unfold jR;simp only[ow,nM,mE,mJ,bS,bL,lJ,an,ah,iA,iy,iL,ja,iY,jG];go_wp2_with fail;refine(ML Dd hs v lo hi h C w j).mono ?_;rintro r w1⟨rfl,d⟩;have k1:w1.cell? ⟨I,1,H⟩=G (J L<|A):=by rw[d.cell<|bz _ _ f];exact f
 have P:w1.cell? ⟨Rg,A,H⟩=G old:=by rw[d.cell c];exact i
 have F:∀o,w1.frozen? ⟨Rg,o,H⟩=u:=λo=>by have:=n o;unfold aY at this⊢;rw[d.block Rg c];exact this
 generalize k:lQ hs v lo (hi+1-lo)=S at*;generalize p:mY hs lo (hi+1-lo)=N at*;have x:Hid<|_=_:=k;have s:=p;clear f t z g0 B j i n k p;go_wp2_with fail;exact⟨w1,d,by first|rw[x.out]|rw[s.out]⟩
def adN(A X lo hi e go ng b:Nat)(hs:Nat->Bool)(v:Nat->Int)(M:A<4)(K:X<ng)(h:lo<=hi)(C:hi<=99)(f:w.cell? ⟨I,1,H⟩=G (J L (A:Nat)))(t:w.cell? ⟨I,2,H⟩=G (J L (X:Nat)))(z:w.cell? ⟨T,2,H⟩=G (az (G ⟨e,go,H⟩) ng b))(g0:w.cell? ⟨e,go+X*2,H⟩=G (J L (lo:Nat)))(B:w.cell? ⟨e,go+X*2+1,H⟩=G (J L (hi:Nat)))(j:DD w Dd 0 hs v)(old:E)(i:w.cell? ⟨Rg,A,H⟩=G old)(n:∀o,w.frozen? ⟨Rg,o,H⟩=u)(c:Rg<w.heap.size):(iY<|iy oX).wp W (λex a y=>ex=l/\jR T C0 RC RR Dd Rg nx a/\∃w1,Below w.heap.size w w1/\y=w1.setCell ⟨Rg,A,H⟩ (J L<|(mY hs lo<|hi+1-lo:Nat))) ⟨fr 148<|upd (upd (upd (upd (upd (upd (upd (upd (upd g 2<|U<|G ⟨T,0,H⟩) 3<|U<|G ⟨C0,0,H⟩) 4<|U<|G ⟨RC,0,H⟩) 5<|U<|G ⟨RR,0,H⟩) 6<|Z u) 7<|U<|G ⟨Dd,0,H⟩) 8<|U<|G ⟨Rg,0,H⟩) 9<|J L (nx:Nat)) 10<|U<|G ⟨I,0,H⟩,[]⟩ w:=by
 simp only[fr,upd,ak,ar,ao,aq,ax,reduceIte];have i1:(0)<=(A):=by omega
 have i2:(A)<4:=by omega
 have i3:(0)<=(X):=by omega
 have O:(X)<(ng):=by omega
 unfold jR;simp only[oX,ow,nM,mE,mJ,bS,bL,lJ,an,ah,iA,iy,iL,ja,iY,jG];go_wp2_with fail;refine(ML Dd hs v lo hi h C w j).mono ?_;rintro r w1⟨rfl,d⟩;have k1:w1.cell? ⟨I,1,H⟩=G (J L<|A):=by rw[d.cell<|bz _ _ f];exact f
 have P:w1.cell? ⟨Rg,A,H⟩=G old:=by rw[d.cell c];exact i
 have F:∀o,w1.frozen? ⟨Rg,o,H⟩=u:=λo=>by have:=n o;unfold aY at this⊢;rw[d.block Rg c];exact this
 generalize k:lQ hs v lo (hi+1-lo)=S at*;generalize p:mY hs lo (hi+1-lo)=N at*;have x:=k;have s:Hid<|_=_:=p;clear f t z g0 B j i n k p;go_wp2_with fail;exact⟨w1,d,by first|rw[x.out]|rw[s.out]⟩
def afF(A B C:Nat)(s r:Int)(V:A<4)(P:B<4)(O:C<4)(K:w.cell? ⟨I,1,H⟩=G (J L (A:Nat)))(y:w.cell? ⟨I,2,H⟩=G (J L (B:Nat)))(x:w.cell? ⟨I,3,H⟩=G (J L (C:Nat)))(f:w.cell? ⟨Rg,B,H⟩=G (J L s))(h:w.cell? ⟨Rg,C,H⟩=G (J L r))(old:E)(v:w.cell? ⟨Rg,A,H⟩=G old)(t:∀o,w.frozen? ⟨Rg,o,H⟩=u)(j:Rg<w.heap.size):t26.wp W (λex a i=>ex=l/\jR T C0 RC RR Dd Rg nx a/\∃w1,Below w.heap.size w w1/\i=w1.setCell ⟨Rg,A,H⟩ (J L<|wrap64<|s+r)) ⟨fr 148<|upd (upd (upd (upd (upd (upd (upd (upd (upd g 2<|U<|G ⟨T,0,H⟩) 3<|U<|G ⟨C0,0,H⟩) 4<|U<|G ⟨RC,0,H⟩) 5<|U<|G ⟨RR,0,H⟩) 6<|Z u) 7<|U<|G ⟨Dd,0,H⟩) 8<|U<|G ⟨Rg,0,H⟩) 9<|J L (nx:Nat)) 10<|U<|G ⟨I,0,H⟩,[]⟩ w:=by
 simp only[fr,upd,ak,ar,ao,aq,ax,reduceIte];have i1:(0)<=(A):=by omega
 have i2:(A)<4:=by omega
 have i3:(0)<=(B):=by omega
 have i4:(B)<4:=by omega
 have i5:(0)<=(C):=by omega
 have R:(C)<4:=by omega
 unfold jR;rw[aas];have S:=cell_regrown K;have f2:=cell_regrown y;have M:=cell_regrown x;have N:=cell_regrown f;have X:=cell_regrown h;have z:=cell_regrown v;have ff:=B8 t j;refine z9 (n:=12) (tail:=[12]) (C:=λi=>∃p:bg,i=grow (redrawn w p.d) p.os) (by kernel_rfl) (zi (by kernel_rfl) _) (by decide) (by kernel_rfl) (by kernel_rfl) ⟨⟨w.drawn+1,#[]⟩,by rw[grow_empty];rfl⟩ ?_;simp only[jV,t26,pN,oX,ow,nM,mE,mJ,bS,bL,lJ,an,ah,iA,iy,iL,ja,iY,jG,aP,aQ,aU,aV,aW,aX];repeat(go_big_quiet_step(fail))
 refine wpQuiet_nil ?_;intro _ k;obtain⟨⟨e,b⟩,c⟩:=k;subst c;have q4:=z e b;have Q:=ff e b;have F:=below_regrown w e b;generalize grow (redrawn w e) b=w1 at*;refine yS rfl ?_;go_wp2_with fail;exact⟨w1,F,rfl⟩
def abq(A B C:Nat)(s r:Int)(V:A<4)(P:B<4)(O:C<4)(K:w.cell? ⟨I,1,H⟩=G (J L (A:Nat)))(y:w.cell? ⟨I,2,H⟩=G (J L (B:Nat)))(x:w.cell? ⟨I,3,H⟩=G (J L (C:Nat)))(f:w.cell? ⟨Rg,B,H⟩=G (J L s))(h:w.cell? ⟨Rg,C,H⟩=G (J L r))(old:E)(v:w.cell? ⟨Rg,A,H⟩=G old)(t:∀o,w.frozen? ⟨Rg,o,H⟩=u)(j:Rg<w.heap.size):t28.wp W (λex a i=>ex=l/\jR T C0 RC RR Dd Rg nx a/\∃w1,Below w.heap.size w w1/\i=w1.setCell ⟨Rg,A,H⟩ (J L<|wrap64<|s-r)) ⟨fr 148<|upd (upd (upd (upd (upd (upd (upd (upd (upd g 2<|U<|G ⟨T,0,H⟩) 3<|U<|G ⟨C0,0,H⟩) 4<|U<|G ⟨RC,0,H⟩) 5<|U<|G ⟨RR,0,H⟩) 6<|Z u) 7<|U<|G ⟨Dd,0,H⟩) 8<|U<|G ⟨Rg,0,H⟩) 9<|J L (nx:Nat)) 10<|U<|G ⟨I,0,H⟩,[]⟩ w:=by
 simp only[fr,upd,ak,ar,ao,aq,ax,reduceIte];have i1:(0)<=(A):=by omega
 have i2:(A)<4:=by omega
 have i3:(0)<=(B):=by omega
 have i4:(B)<4:=by omega
 have i5:(0)<=(C):=by omega
 have R:(C)<4:=by omega
 unfold jR;rw[Rv];have S:=cell_regrown K;have f2:=cell_regrown y;have M:=cell_regrown x;have N:=cell_regrown f;have X:=cell_regrown h;have z:=cell_regrown v;have ff:=B8 t j;refine z9 (n:=12) (tail:=[12]) (C:=λi=>∃p:bg,i=grow (redrawn w p.d) p.os) (by kernel_rfl) (zi (by kernel_rfl) _) (by decide) (by kernel_rfl) (by kernel_rfl) ⟨⟨w.drawn+1,#[]⟩,by rw[grow_empty];rfl⟩ ?_;simp only[jV,t28,qF,pN,oX,ow,nM,mE,mJ,bS,bL,lJ,an,ah,iA,iy,iL,ja,iY,jG,aP,aQ,aU,aV,aW,aX];repeat(go_big_quiet_step(fail))
 refine wpQuiet_nil ?_;intro _ k;obtain⟨⟨e,b⟩,c⟩:=k;subst c;have q4:=z e b;have Q:=ff e b;have F:=below_regrown w e b;generalize grow (redrawn w e) b=w1 at*;refine yS rfl ?_;go_wp2_with fail;exact⟨w1,F,rfl⟩
end
def u8:ae:=iA Ba
def u32:ae:=iA bZ
def adC:Ba=aj u8 .ret:=by kernel_rfl
def Zy:bZ=aj u32 .ret:=by kernel_rfl
def Ui:u8=aF 8 (jV u8) D:=by kernel_rfl
def aep:u32=aF 32 (jV u32) D:=by kernel_rfl
def kG(hs:Nat->Bool)(v:Nat->Int):List E:=(ak 100).map (λk=>Z<|hs k)++(ak 100).map (λk=>J L<|v k)
def tI(hs:Nat->Bool)(v:Nat->Int):(kG hs v).length=200:=by simp[kG]
def CC(hs:Nat->Bool)(v:Nat->Int):∀b∈kG hs v,b.oneCell'=D:=by intro b a;simp only[kG,List.mem_append,List.mem_map]at a;rcases a with⟨k,_,rfl⟩|⟨k,_,rfl⟩<;>rfl
def wQ:(Tryz.prog.info? 61).map (·.size)=G 200:=by kernel_rfl
def zz:(Tryz.prog.info? 73).map (·.size)=G 4:=by kernel_rfl
def jT(r:Nat->Int):List E:=[J L<|r 0,J L<|r 1,J L<|r 2,J L<|r 3]
def adL(ev:Operand->E)(w:Y):(execOp ev<|opAt (opsL u8) 4).run W w=.ok (.value<|ev<|bj<|Z D) w:=by
 have e:(opAt (opsL u8) 4)=⟨G 6,.assign<|bj<|Z D,(opAt (opsL u8) 4).type,(opAt (opsL u8) 4).pos,(opAt (opsL u8) 4).after,H⟩:=by kernel_rfl
 rw[e];rfl
def S4(ev:Operand->E)(w:Y):(execOp ev<|opAt (opsL u32) 4).run W w=.ok (.value<|ev<|bj<|Z u) w:=by
 have e:(opAt (opsL u32) 4)=⟨G 6,.assign<|bj<|Z u,(opAt (opsL u32) 4).type,(opAt (opsL u32) 4).pos,(opAt (opsL u32) 4).after,H⟩:=by kernel_rfl
 rw[e];rfl
def A9{b:Nat}:∀(a:List E)(o:Nat)(w:Y),b≠x->(w.setCells x o a).heap[b]?=w.heap[b]?|[],_,_,_=>rfl|v::a,o,w,h=>by show((w.setCell ⟨x,o,H⟩ v).setCells x (o+1) a).heap[b]?=_;rw[A9 a (o+1) _ h,Below.heap_setCell _ _ _ _ h]
def Jg{w:Y}{b:Nat}{n:Nat}{vs:List E}(h:w.there b 0 n)(c:b≠x):(w.setCells x 0 vs).there b 0 n:=by
 intro j f;have a:=A9 vs 0 w c;obtain⟨e,d⟩:=h j f;constructor;.unfold bw at e⊢;rw[a];exact e
 .unfold aY at d⊢;rw[a];exact d
noncomputable section
variable(w:Y)(a:Act)(SC RC RR Rg:Nat)(cs rs:List E)(hcs:cs.length=200)(hrs:rs.length=4)(ocs:cs.toArray.all (·.oneCell')=D)(ors:rs.toArray.all (·.oneCell')=D)
include hcs hrs ocs ors
def Zx(d:a.tmps.size=148)(hd:a.defers=[])(e3:a.tmps.getD 3 q=U (G ⟨SC,0,H⟩))(V:a.tmps.getD 8 q=U (G ⟨Rg,0,H⟩))(M:a.tmps.getD 4 q=U (G ⟨RC,0,H⟩))(e5:a.tmps.getD 5 q=U (G ⟨RR,0,H⟩))(r:w.rangeAt SC 0 cs)(p:w.rangeAt Rg 0 rs)(O:w.there RC 0 200)(K:w.there RR 0 4)(n1:Rg≠RC)(X:RR≠RC)(Q:SC≠RC)(C:SC≠RR)(I:Rg≠RR):u8.wp W (λex g f=>ex=l/\(g.defers=[]/\g.tmps.getD 4 q=U (G ⟨RC,0,H⟩)/\g.tmps.getD 5 q=U (G ⟨RR,0,H⟩)/\g.tmps.getD 6 q=Z D)/\∃w1:Y,(w1.heap=w.heap/\Below w.heap.size w w1)/\f=(w1.setCells RC 0 cs).setCells RR 0 rs) a w:=by
 obtain⟨d0,d1,d2,d3,d4⟩:(opAt (opsL u8) 0).dst=G 30/\(opAt (opsL u8) 1).dst=G 31/\(opAt (opsL u8) 2).dst=H/\(opAt (opsL u8) 3).dst=H/\(opAt (opsL u8) 4).dst=G 6:=⟨by kernel_rfl,by kernel_rfl,by kernel_rfl,by kernel_rfl,by kernel_rfl⟩;obtain⟨o2,R,o4⟩:(jV u8)[2]?=G (opAt (opsL u8) 2)/\(jV u8)[3]?=G (opAt (opsL u8) 3)/\(jV u8)[4]?=G (opAt (opsL u8) 4):=⟨by kernel_rfl,by kernel_rfl,by kernel_rfl⟩;obtain⟨N,P,T⟩:(opAt (opsL u8) 2).guard=H/\(opAt (opsL u8) 3).guard=H/\(opAt (opsL u8) 4).guard=H:=⟨by kernel_rfl,by kernel_rfl,by kernel_rfl⟩;rw[Ui];refine wp_region_held (S:=λf=>f.rangeAt SC 0 cs/\f.rangeAt Rg 0 rs) (by kernel_rfl) ?_;refine wpAnyH_take (i:=0) (oi:=opAt (opsL u8) 0) (by kernel_rfl) (by kernel_rfl) (by kernel_rfl) (by kernel_rfl) (λc a w h=>by cases h.1) (yieldsIf_load_mid (by kernel_rfl) 61 (ai 3) (by kernel_rfl) SC 0 e3 cs _ (λw h=>h.1) bq rfl<|by rw[hcs];exact wQ) ⟨r,p⟩ ?_;rw[d0];have p8:(a.put (G 30)<|m cs.toArray).tmps.getD 8 q=U (G ⟨Rg,0,H⟩):=by rw[iK _<|by decide];exact V
 refine wpAnyH_take (i:=1) (oi:=opAt (opsL u8) 1) (by kernel_rfl) (by kernel_rfl) (by kernel_rfl) (by kernel_rfl) (λc a w h=>by cases h.1) (yieldsIf_load_mid (by kernel_rfl) 73 (ai 8) (by kernel_rfl) Rg 0 p8 rs _ (λw h=>h.2) bA rfl<|by rw[hrs];exact zz) ⟨r,p⟩ ?_;rw[d1];have F:((a.put (G 30)<|m cs.toArray).put (G 31)<|m rs.toArray).tmps.getD 4 q=U (G ⟨RC,0,H⟩):=by rw[iK _<|by decide,iK _<|by decide];exact M
 have B:((a.put (G 30)<|m cs.toArray).put (G 31)<|m rs.toArray).tmps.getD 5 q=U (G ⟨RR,0,H⟩):=by rw[iK _<|by decide,iK _<|by decide];exact e5
 have t:((a.put (G 30)<|m cs.toArray).put (G 31)<|m rs.toArray).tmps.getD 30 q=m cs.toArray:=by rw[iK _<|by decide];exact m8 _ (by rw[d];decide)
 have j:((a.put (G 30)<|m cs.toArray).put (G 31)<|m rs.toArray).tmps.getD 31 q=m rs.toArray:=m8 _ (by rw[kx,d];decide);have k:((a.put (G 30)<|m cs.toArray).put (G 31)<|m rs.toArray).tmps.size=148:=by rw[kx,kx];exact d
 have n:((a.put (G 30)<|m cs.toArray).put (G 31)<|m rs.toArray).defers=[]:=by rw[put_defers,put_defers];exact hd
 generalize((a.put (G 30)<|m cs.toArray).put (G 31)<|m rs.toArray)=A at*;have y:({w with drawn:=w.drawn+1}:Y).heap=w.heap/\Below w.heap.size w ({w with drawn:=w.drawn+1}:Y):=⟨rfl,(Below.refl _ _).drew⟩;have o:({w with drawn:=w.drawn+1}:Y).rangeAt SC 0 cs:=r;have s:({w with drawn:=w.drawn+1}:Y).rangeAt Rg 0 rs:=p;have z:({w with drawn:=w.drawn+1}:Y).there RC 0 200:=O;have v:({w with drawn:=w.drawn+1}:Y).there RR 0 4:=K;generalize({w with drawn:=w.drawn+1})=w1 at*;refine wpAnyH_all (rs:=[2]) (by kernel_rfl) (by simp) λi hi=>?_;obtain rfl:i=2:=by simpa using hi
 unfold wpOp;rw[o2];simp only[ua N,if_true];have e:=aD o RC 0 cs<|au Q;have b:=aD s RC 0 cs<|au n1;have x:(w1.setCells RC 0 cs).there RR 0 4:=Jg v X;refine au<|wp_store_mid 61 (ai 4) (ai 30) (by kernel_rfl) RC 0 cs.toArray F t (by rw[aJ,hcs];exact z) (by rw[aJ,hcs];exact wQ) ocs ⟨⟨e,b⟩,?_⟩;rw[d2];refine wpAnyH_all (rs:=[3]) (by kernel_rfl) (by simp) λi hi=>?_;obtain rfl:i=3:=by simpa using hi
 unfold wpOp;rw[R];simp only[ua P,if_true];refine au<|wp_store_mid 73 (ai 5) (ai 31) (by kernel_rfl) RR 0 rs.toArray B j (by rw[aJ,hrs];exact x) (by rw[aJ,hrs];exact zz) ors ⟨⟨aD e RR 0 rs<|au C,aD b RR 0 rs<|au I⟩,?_⟩;rw[d3];change wpAnyH _ _ _ _ _ _ _ A ((w1.setCells RC 0 cs).setCells RR 0 rs);refine wpAnyH_all (rs:=[4]) (by kernel_rfl) (by simp) λi hi=>?_;obtain rfl:i=4:=by simpa using hi
 unfold wpOp;rw[o4];simp only[ua T,if_true];refine au<|j7 (adL _ _) ⟨⟨aD e RR 0 rs<|au C,aD b RR 0 rs<|au I⟩,?_⟩;rw[d4];refine wpAnyH_done (by kernel_rfl) ⟨rfl,⟨by rw[put_defers];exact n,by rw[iK _<|by decide];exact F,by rw[iK _<|by decide];exact B,m8 _<|by rw[k];decide⟩,w1,y,rfl⟩ _
def Uq(d:a.tmps.size=148)(hd:a.defers=[])(e3:a.tmps.getD 7 q=U (G ⟨SC,0,H⟩))(V:a.tmps.getD 8 q=U (G ⟨Rg,0,H⟩))(M:a.tmps.getD 4 q=U (G ⟨RC,0,H⟩))(e5:a.tmps.getD 5 q=U (G ⟨RR,0,H⟩))(r:w.rangeAt SC 0 cs)(p:w.rangeAt Rg 0 rs)(O:w.there RC 0 200)(K:w.there RR 0 4)(n1:Rg≠RC)(X:RR≠RC)(Q:SC≠RC)(C:SC≠RR)(I:Rg≠RR):u32.wp W (λex g f=>ex=l/\(g.defers=[]/\g.tmps.getD 4 q=U (G ⟨RC,0,H⟩)/\g.tmps.getD 5 q=U (G ⟨RR,0,H⟩)/\g.tmps.getD 6 q=Z u)/\∃w1:Y,(w1.heap=w.heap/\Below w.heap.size w w1)/\f=(w1.setCells RC 0 cs).setCells RR 0 rs) a w:=by
 obtain⟨d0,d1,d2,d3,d4⟩:(opAt (opsL u32) 0).dst=G 146/\(opAt (opsL u32) 1).dst=G 147/\(opAt (opsL u32) 2).dst=H/\(opAt (opsL u32) 3).dst=H/\(opAt (opsL u32) 4).dst=G 6:=⟨by kernel_rfl,by kernel_rfl,by kernel_rfl,by kernel_rfl,by kernel_rfl⟩;obtain⟨o2,R,o4⟩:(jV u32)[2]?=G (opAt (opsL u32) 2)/\(jV u32)[3]?=G (opAt (opsL u32) 3)/\(jV u32)[4]?=G (opAt (opsL u32) 4):=⟨by kernel_rfl,by kernel_rfl,by kernel_rfl⟩;obtain⟨N,P,T⟩:(opAt (opsL u32) 2).guard=H/\(opAt (opsL u32) 3).guard=H/\(opAt (opsL u32) 4).guard=H:=⟨by kernel_rfl,by kernel_rfl,by kernel_rfl⟩;rw[aep];refine wp_region_held (S:=λf=>f.rangeAt SC 0 cs/\f.rangeAt Rg 0 rs) (by kernel_rfl) ?_;refine wpAnyH_take (i:=0) (oi:=opAt (opsL u32) 0) (by kernel_rfl) (by kernel_rfl) (by kernel_rfl) (by kernel_rfl) (λc a w h=>by cases h.1) (yieldsIf_load_mid (by kernel_rfl) 61 (ai 7) (by kernel_rfl) SC 0 e3 cs _ (λw h=>h.1) bq rfl<|by rw[hcs];exact wQ) ⟨r,p⟩ ?_;rw[d0];have p8:(a.put (G 146)<|m cs.toArray).tmps.getD 8 q=U (G ⟨Rg,0,H⟩):=by rw[iK _<|by decide];exact V
 refine wpAnyH_take (i:=1) (oi:=opAt (opsL u32) 1) (by kernel_rfl) (by kernel_rfl) (by kernel_rfl) (by kernel_rfl) (λc a w h=>by cases h.1) (yieldsIf_load_mid (by kernel_rfl) 73 (ai 8) (by kernel_rfl) Rg 0 p8 rs _ (λw h=>h.2) bA rfl<|by rw[hrs];exact zz) ⟨r,p⟩ ?_;rw[d1];have F:((a.put (G 146)<|m cs.toArray).put (G 147)<|m rs.toArray).tmps.getD 4 q=U (G ⟨RC,0,H⟩):=by rw[iK _<|by decide,iK _<|by decide];exact M
 have B:((a.put (G 146)<|m cs.toArray).put (G 147)<|m rs.toArray).tmps.getD 5 q=U (G ⟨RR,0,H⟩):=by rw[iK _<|by decide,iK _<|by decide];exact e5
 have t:((a.put (G 146)<|m cs.toArray).put (G 147)<|m rs.toArray).tmps.getD 146 q=m cs.toArray:=by rw[iK _<|by decide];exact m8 _ (by rw[d];decide)
 have j:((a.put (G 146)<|m cs.toArray).put (G 147)<|m rs.toArray).tmps.getD 147 q=m rs.toArray:=m8 _ (by rw[kx,d];decide);have k:((a.put (G 146)<|m cs.toArray).put (G 147)<|m rs.toArray).tmps.size=148:=by rw[kx,kx];exact d
 have n:((a.put (G 146)<|m cs.toArray).put (G 147)<|m rs.toArray).defers=[]:=by rw[put_defers,put_defers];exact hd
 generalize((a.put (G 146)<|m cs.toArray).put (G 147)<|m rs.toArray)=A at*;have y:({w with drawn:=w.drawn+1}:Y).heap=w.heap/\Below w.heap.size w ({w with drawn:=w.drawn+1}:Y):=⟨rfl,(Below.refl _ _).drew⟩;have o:({w with drawn:=w.drawn+1}:Y).rangeAt SC 0 cs:=r;have s:({w with drawn:=w.drawn+1}:Y).rangeAt Rg 0 rs:=p;have z:({w with drawn:=w.drawn+1}:Y).there RC 0 200:=O;have v:({w with drawn:=w.drawn+1}:Y).there RR 0 4:=K;generalize({w with drawn:=w.drawn+1})=w1 at*;refine wpAnyH_all (rs:=[2]) (by kernel_rfl) (by simp) λi hi=>?_;obtain rfl:i=2:=by simpa using hi
 unfold wpOp;rw[o2];simp only[ua N,if_true];have e:=aD o RC 0 cs<|au Q;have b:=aD s RC 0 cs<|au n1;have x:(w1.setCells RC 0 cs).there RR 0 4:=Jg v X;refine au<|wp_store_mid 61 (ai 4) (ai 146) (by kernel_rfl) RC 0 cs.toArray F t (by rw[aJ,hcs];exact z) (by rw[aJ,hcs];exact wQ) ocs ⟨⟨e,b⟩,?_⟩;rw[d2];refine wpAnyH_all (rs:=[3]) (by kernel_rfl) (by simp) λi hi=>?_;obtain rfl:i=3:=by simpa using hi
 unfold wpOp;rw[R];simp only[ua P,if_true];refine au<|wp_store_mid 73 (ai 5) (ai 147) (by kernel_rfl) RR 0 rs.toArray B j (by rw[aJ,hrs];exact x) (by rw[aJ,hrs];exact zz) ors ⟨⟨aD e RR 0 rs<|au C,aD b RR 0 rs<|au I⟩,?_⟩;rw[d3];change wpAnyH _ _ _ _ _ _ _ A ((w1.setCells RC 0 cs).setCells RR 0 rs);refine wpAnyH_all (rs:=[4]) (by kernel_rfl) (by simp) λi hi=>?_;obtain rfl:i=4:=by simpa using hi
 unfold wpOp;rw[o4];simp only[ua T,if_true];refine au<|j7 (S4 _ _) ⟨⟨aD e RR 0 rs<|au C,aD b RR 0 rs<|au I⟩,?_⟩;rw[d4];refine wpAnyH_done (by kernel_rfl) ⟨rfl,⟨by rw[put_defers];exact n,by rw[iK _<|by decide];exact F,by rw[iK _<|by decide];exact B,m8 _<|by rw[k];decide⟩,w1,y,rfl⟩ _
end
def aba(a b:E):(#[a,b]++Array.replicate (Tryz.f35.ntmps-(#[a,b]:Array E).size) q)=#[a,b,q,q,q,q,q,q,q,q,q,q,q,q,q,q,q,q,q,q,q,q,q,q,q,q,q,q,q,q,q,q,q,q,q,q,q,q,q,q,q,q,q,q,q,q,q,q,q,q,q,q,q,q,q,q,q,q,q,q,q,q,q,q,q,q,q,q,q,q,q,q,q,q,q,q,q,q,q,q,q,q,q,q,q,q,q,q,q,q,q,q,q,q,q,q,q,q,q,q,q,q,q,q,q,q,q,q,q,q,q,q,q,q,q,q,q,q,q,q,q,q,q,q,q,q,q,q,q,q,q,q,q,q,q,q,q,q,q,q,q,q,q,q,q,q,q,q]:=by kernel_rfl
noncomputable section
variable(T C0 RC RR Dd Rg nx I:Nat)(w:Y)(g:Nat->E)
def Ri(e vb b c:E)(d:List E):b0.wp W (λex a f=>ex=l/\(a.tmps.size=148/\a.defers=[]/\a.tmps.getD 2 q=U (G ⟨w.heap.size,0,H⟩)/\a.tmps.getD 3 q=U (G ⟨w.heap.size+1,0,H⟩)/\a.tmps.getD 4 q=U (G ⟨w.heap.size+1+1,0,H⟩)/\a.tmps.getD 5 q=U (G ⟨w.heap.size+1+1+1,0,H⟩)/\a.tmps.getD 6 q=Z u)/\f=((((w.alloc<|ay #[e,vb,b,c] 91).alloc<|ay d.toArray 61).alloc<|ay aN 61).alloc<|ay #[J L 0,J L 0,J L 0,J L 0] 73)) ⟨#[m #[e,vb,b,c],m d.toArray,q,q,q,q,q,q,q,q,q,q,q,q,q,q,q,q,q,q,q,q,q,q,q,q,q,q,q,q,q,q,q,q,q,q,q,q,q,q,q,q,q,q,q,q,q,q,q,q,q,q,q,q,q,q,q,q,q,q,q,q,q,q,q,q,q,q,q,q,q,q,q,q,q,q,q,q,q,q,q,q,q,q,q,q,q,q,q,q,q,q,q,q,q,q,q,q,q,q,q,q,q,q,q,q,q,q,q,q,q,q,q,q,q,q,q,q,q,q,q,q,q,q,q,q,q,q,q,q,q,q,q,q,q,q,q,q,q,q,q,q,q,q,q,q,q,q],[]⟩ w:=by simp only[b0,lJ,an,ah,iA];go_wp2
def T9(c:g 7=U (G ⟨Dd,0,H⟩)):b2.wp W (λex a b=>ex=l/\(a.tmps.size=148/\a.defers=[]/\a.tmps.getD 2 q=g 2/\a.tmps.getD 3 q=g 3/\a.tmps.getD 4 q=g 4/\a.tmps.getD 5 q=g 5/\a.tmps.getD 6 q=g 6/\a.tmps.getD 7 q=g 7/\a.tmps.getD 8 q=U (G ⟨w.heap.size,0,H⟩))/\b=w.alloc (ay #[J L 0,J L 0,J L 0,J L 0] 73)) ⟨fr 148 g,[]⟩ w:=by simp only[fr,ak,ar,ao,aq,reduceIte];simp only[b2,lJ,an,ah,iA,iy];go_wp2
def XK:b3.wp W (λex a b=>ex=l/\(a.tmps.size=148/\a.defers=[]/\a.tmps.getD 2 q=g 2/\a.tmps.getD 3 q=g 3/\a.tmps.getD 4 q=g 4/\a.tmps.getD 5 q=g 5/\a.tmps.getD 6 q=g 6/\a.tmps.getD 7 q=g 7/\a.tmps.getD 8 q=g 8/\a.tmps.getD 9 q=J L 0)/\b=w) ⟨fr 148 g,[]⟩ w:=by simp only[fr,ak,ar,ao,aq,reduceIte];simp only[b3,lJ,an,ah,iA,iy];go_wp2
def Sg(A B C:Nat)(h i:Int)(F:A<4)(P:B<4)(y:C<=16)(p:w.cell? ⟨I,1,H⟩=G (J L (A:Nat)))(v:w.cell? ⟨I,2,H⟩=G (J L (B:Nat)))(t:w.cell? ⟨I,3,H⟩=G (J L (C:Nat)))(j:w.cell? ⟨Rg,A,H⟩=G (J L h))(k:w.cell? ⟨Rg,B,H⟩=G (J L i)):(iY<|iy rv).wp W (λex a o=>ex=l/\jR T C0 RC RR Dd Rg (if h<i then C else nx) a/\Below w.heap.size w o) ⟨fr 148<|upd (upd (upd (upd (upd (upd (upd (upd (upd g 2<|U<|G ⟨T,0,H⟩) 3<|U<|G ⟨C0,0,H⟩) 4<|U<|G ⟨RC,0,H⟩) 5<|U<|G ⟨RR,0,H⟩) 6<|Z u) 7<|U<|G ⟨Dd,0,H⟩) 8<|U<|G ⟨Rg,0,H⟩) 9<|J L (nx:Nat)) 10<|U<|G ⟨I,0,H⟩,[]⟩ w:=by
 simp only[fr,upd,ak,ar,ao,aq,ax,reduceIte];have i1:(0)<=(A):=by omega
 have i2:(A)<4:=by omega
 have i3:(0)<=(B):=by omega
 have z:(B)<4:=by omega
 have M:=cell_regrown p;have K:=cell_regrown v;have s:=cell_regrown t;have O:=cell_regrown j;have x:=cell_regrown k;by_cases e:h<i;.rw[if_pos e];unfold jR;simp only[rv,qF,pN,oX,ow,nM,mE,mJ,bS,bL,lJ,an,ah,iA,iy,iL,ja,iY,jG];refine wp_seq ?_;refine wp_region_quiet_below (by kernel_rfl) (by kernel_rfl) ?_;(repeat(go_big_quiet_step(fail)));refine wpQuiet_nil ?_;intro _ d;obtain⟨⟨f,b⟩,c⟩:=d;subst c;have N:=s f b;have r:=below_regrown w f b;generalize grow (redrawn w f) b=w1 at*;show bB _ _ _ _ _;go_wp2
 .rw[if_neg e];(have n:decide (h<i)=u:=by simpa using e);unfold jR;simp only[rv,qF,pN,oX,ow,nM,mE,mJ,bS,bL,lJ,an,ah,iA,iy,iL,ja,iY,jG];refine wp_seq ?_;refine wp_region_quiet_below (by kernel_rfl) (by kernel_rfl) ?_;(repeat(go_big_quiet_step(fail)));refine wpQuiet_nil ?_;intro _ d;obtain⟨⟨f,b⟩,c⟩:=d;subst c;have r:=below_regrown w f b;generalize grow (redrawn w f) b=w1 at*;show bB _ _ _ _ _;go_wp2
end
def FV:Tryz.zeroCells61.size=200:=by kernel_rfl
def xr{w:Y}{b n:Nat}{c:Nat->E}(h:iJ w b x n c):w.there b 0 n:=λj a=>⟨by rw[aZ,h.cell a];rfl,by rw[aZ];exact h.frozen j⟩
def aeu(w:Y)(c:Array E)(t:TypeId){n:Nat}(a:c.size=n):(w.alloc<|ay c t).there w.heap.size 0 n:=by have h:=km w c.toList t;rw[Array.toArray_toList,Array.length_toList,a]at h;exact xr h
noncomputable section
variable(T C0 RC RR Dd Rg nx I:Nat)(w:Y)(g:Nat->E)
def XM(b:List E)(c:b.length=200)(d:b.toArray.all (·.oneCell')=D)(n:w.rangeAt C0 0 b):b1.wp W (λex a i=>ex=l/\(a.tmps.size=148/\a.defers=[]/\a.tmps.getD 2 q=g 2/\a.tmps.getD 3 q=U (G ⟨C0,0,H⟩)/\a.tmps.getD 4 q=g 4/\a.tmps.getD 5 q=g 5/\a.tmps.getD 6 q=g 6/\a.tmps.getD 7 q=U (G ⟨w.heap.size,0,H⟩))/\i=(w.alloc<|ay aN 61).setCells w.heap.size 0 b) ⟨fr 148<|upd g 3<|U<|G ⟨C0,0,H⟩,[]⟩ w:=by
 simp only[fr,upd,ak,ar,ao,aq,ax,reduceIte];have e:=aeu w aN 61 FV;have f:(storeCells ⟨w.heap.size,0,H⟩ b).run W (w.alloc<|ay aN 61)=.ok () ((w.alloc<|ay aN 61).setCells w.heap.size 0 b):=by have:=run_storeCells_cells (P:=W) w.heap.size 0 b 0 (w.alloc<|ay aN 61) (λj k=>(e j<|by omega).1) (λj k=>(e j<|by omega).2) λv o=>(Array.all_eq_true_iff_forall_mem.1 d) v (by simpa using o);simpa using this
 have h:b.toArray.size=200:=by rw[aJ];exact c
 simp only[b1,lJ,an,ah,iA,iy];refine wp_region_lit ?_;refine wpList_load_mid rfl 61 (ai 3) rfl C0 0 rfl b _ n bq rfl (by rw[c];exact wQ) ?_;go_wp2_with fail
end
def sU(hs:Nat->Bool)(v:Nat->Int){k:Nat}(hk:k<100):lc (kG hs v) k=Z (hs k):=by unfold lc kG;grind
def rX(hs:Nat->Bool)(v:Nat->Int){k:Nat}(hk:k<100):lc (kG hs v) (100+k)=J L (v k):=by unfold lc kG;rw[bm,List.getElem?_append_right<|by simp];simp[hk]
def xL(r:Nat->Int){k:Nat}(hk:k<4):lc (jT r) k=J L (r k):=by match k,hk with|0,_|1,_|2,_|3,_=>rfl
def JH(h:x<200):x<100\/∃k,k<100/\x=100+k:=by
 rcases Nat.lt_or_ge x 100 with a|a;.exact au a
 .exact .inr ⟨x-100,by omega,by omega⟩
def yY{w:Y}{b:Nat}{a:List E}{n:Nat}(h:iJ w b x n<|lc a)(d:a.length=n):w.rangeAt b 0 a:=by
 intro j v e;have c:j<n:=by grind
 rw[aZ,h.cell c];unfold lc;grind
def iJ.J7{w:Y}{b:Nat}{hs:Nat->Bool}{v:Nat->Int}(h:iJ w b x 200<|lc<|kG hs v):DD w b 0 hs v:=by
 intro k hk;refine⟨?_,?_⟩;.rw[aZ,h.cell<|by omega,sU hs v hk]
 .rw[aZ,h.cell<|by omega,rX hs v hk]
def iJ.acT{w:Y}{b:Nat}{hs:Nat->Bool}{v:Nat->Int}(h:iJ w b x 200<|lc<|kG hs v)(e:y<100)(a:Bool):iJ (w.setCell ⟨b,y,H⟩<|Z a) b x 200<|lc<|kG (upd hs y a) v:=by
 refine(h.setCell y<|Z a).congr λj d=>?_;rcases JH d with c|⟨k,hk,rfl⟩;.rw[sU _ _ c,sU _ _ c];unfold upd;simp
 .rw[if_neg<|by omega,rX _ _ hk,rX _ _ hk]
def iJ.VH{w:Y}{b:Nat}{hs:Nat->Bool}{v:Nat->Int}(h:iJ w b x 200<|lc<|kG hs v)(e:y<100)(a:Int):iJ (w.setCell ⟨b,100+y,H⟩<|J L a) b x 200<|lc<|kG hs<|upd v y a:=by
 refine(h.setCell (100+y)<|J L a).congr λj d=>?_;rcases JH d with c|⟨k,hk,rfl⟩;.rw[if_neg<|by omega,sU _ _ c,sU _ _ c]
 .rw[rX _ _ hk,rX _ _ hk];unfold upd;grind
def iJ.adT{w:Y}{b:Nat}{r:Nat->Int}(h:iJ w b x 4<|lc<|jT r)(d:y<4)(a:Int):iJ (w.setCell ⟨b,y,H⟩<|J L a) b x 4<|lc<|jT<|upd r y a:=by refine(h.setCell y<|J L a).congr λj c=>?_;rw[xL _ c,xL _ c];unfold upd;grind
def iJ.US{w:Y}{b:Nat}{hs a:Nat->Bool}{v d:Nat->Int}(h:iJ w b x 200<|lc<|kG hs v)(e1:∀k,k<100->hs k=a k)(e2:∀k,k<100->v k=d k):iJ w b x 200<|lc<|kG a d:=by
 refine h.congr λj e=>?_;rcases JH e with c|⟨k,hk,rfl⟩;.rw[sU _ _ c,sU _ _ c,e1 _ c]
 .rw[rX _ _ hk,rX _ _ hk,e2 _ hk]
structure kY(w0 w:Y)(T C0 RC RR Dd Rg:Nat)(va vb vc vd:E)(hs0:Nat->Bool)(v0:Nat->Int)(hs:Nat->Bool)(v:Nat->Int)(r:Nat->Int):Prop where
 tT:Below w0.heap.size w0 w
 ord:w0.heap.size<=T/\T<C0/\C0<RC/\RC<RR/\RR<Dd/\Dd<Rg
 rT:iJ w T 91 4<|lc [va,vb,vc,vd]
 rC:iJ w C0 61 200<|lc<|kG hs0 v0
 yh:∃c,iJ w RC 61 200 c
 yy:∃c,iJ w RR 73 4 c
 rD:iJ w Dd 61 200<|lc<|kG hs v
 rG:iJ w Rg 73 4<|lc<|jT r
noncomputable section
variable{w0 w w1:Y}{T C0 RC RR Dd Rg:Nat}{va vb vc vd:E}{hs0:Nat->Bool}{v0:Nat->Int}{hs:Nat->Bool}{v:Nat->Int}{r:Nat->Int}
def kY.below(h:kY w0 w T C0 RC RR Dd Rg va vb vc vd hs0 v0 hs v r)(a:Below w.heap.size w w1):kY w0 w1 T C0 RC RR Dd Rg va vb vc vd hs0 v0 hs v r:=⟨h.tT.trans<|a.mono h.tT.size,h.ord,h.rT.below a,h.rC.below a,h.yh.imp λc b=>b.below a,h.yy.imp λc b=>b.below a,h.rD.below a,h.rG.below a⟩
def kY.reg(h:kY w0 w T C0 RC RR Dd Rg va vb vc vd hs0 v0 hs v r)(e:x<4)(d:Int):kY w0 (w.setCell ⟨Rg,x,H⟩<|J L d) T C0 RC RR Dd Rg va vb vc vd hs0 v0 hs v<|upd r x d:=by
 have o:=h.ord;have ne:=λb f=>by show b≠Rg;omega
 exact⟨h.tT.setCell (show w0.heap.size<=Rg by omega) _,o,h.rT.nQ (ne T<|by omega) _,h.rC.nQ (ne C0<|by omega) _,h.yh.imp λc a=>a.nQ (ne RC<|by omega) _,h.yy.imp λc a=>a.nQ (ne RR<|by omega) _,h.rD.nQ (ne Dd<|by omega) _,h.rG.adT e d⟩
def kY.has(h:kY w0 w T C0 RC RR Dd Rg va vb vc vd hs0 v0 hs v r)(f:x<100)(d:Bool):kY w0 (w.setCell ⟨Dd,x,H⟩<|Z d) T C0 RC RR Dd Rg va vb vc vd hs0 v0 (upd hs x d) v r:=by have o:=h.ord;have ne:∀b,b≠Dd->b≠(⟨Dd,x,H⟩:Addr).block:=λb e=>e;exact⟨h.tT.setCell (show w0.heap.size<=Dd by omega) _,o,h.rT.nQ (ne T<|by omega) _,h.rC.nQ (ne C0<|by omega) _,h.yh.imp λc a=>a.nQ (ne RC<|by omega) _,h.yy.imp λc a=>a.nQ (ne RR<|by omega) _,h.rD.acT f d,h.rG.nQ (ne Rg<|by omega) _⟩
def kY.val(h:kY w0 w T C0 RC RR Dd Rg va vb vc vd hs0 v0 hs v r)(f:x<100)(d:Int):kY w0 (w.setCell ⟨Dd,100+x,H⟩<|J L d) T C0 RC RR Dd Rg va vb vc vd hs0 v0 hs (upd v x d) r:=by have o:=h.ord;have ne:∀b,b≠Dd->b≠(⟨Dd,100+x,H⟩:Addr).block:=λb e=>e;exact⟨h.tT.setCell (show w0.heap.size<=Dd by omega) _,o,h.rT.nQ (ne T<|by omega) _,h.rC.nQ (ne C0<|by omega) _,h.yh.imp λc a=>a.nQ (ne RC<|by omega) _,h.yy.imp λc a=>a.nQ (ne RR<|by omega) _,h.rD.VH f d,h.rG.nQ (ne Rg<|by omega) _⟩
def kY.congr(h:kY w0 w T C0 RC RR Dd Rg va vb vc vd hs0 v0 hs v r){a:Nat->Int}(e:∀k,k<100->v k=a k):kY w0 w T C0 RC RR Dd Rg va vb vc vd hs0 v0 hs a r:=⟨h.tT,h.ord,h.rT,h.rC,h.yh,h.yy,h.rD.US (λ_ _=>rfl) e,h.rG⟩
end
def afE(hs:Nat->Bool)(vl:Nat->Int)(A:Nat)(x:Int)(k:Nat):upd (valOf hs vl) A x k=valOf (upd hs A D) (upd vl A x) k:=by unfold upd valOf;grind
def RN(hs:Nat->Bool)(vl:Nat->Int)(A:Nat)(k:Nat):upd (valOf hs vl) A 0 k=valOf (upd hs A u) vl k:=by unfold upd valOf;grind
def IG(hs:Nat->Bool)(vl:Nat->Int)(lo:Nat):∀n,lQ hs (valOf hs vl) lo n=lQ hs vl lo n|0=>rfl|n+1=>by cases h:hs (lo+n)with|true=>rw[En h,En h,IG hs vl lo n];simp[valOf,h]|false=>rw[DY h,DY h,IG hs vl lo n]
noncomputable section
variable{T C0 RC RR Dd Rg nx I:Nat}{w:Y}{a:Act}{kk:Int}{Q:aE->Act->Y->Prop}
def je(T C0 RC RR Dd Rg nx I:Nat)(kk:Int)(a:Act):Prop:=jR T C0 RC RR Dd Rg nx a/\a.tmps.getD 10 q=U (G ⟨I,0,H⟩)/\a.tmps.getD 29 q=J L kk
def K0:bS=aj (iA bS) (aK (ai 32) (iY<|iy bS) mJ):=by kernel_rfl
def Pv(h:je T C0 RC RR Dd Rg nx I kk a)(w:Y):(iA bS).wp W (λex e k=>ex=l/\(je T C0 RC RR Dd Rg nx I kk e/\e.tmps.getD 32 q=Z (kk==1))/\k=w) a w:=by obtain⟨⟨p1,n,p3,p4,f,c,i,d,j,b⟩,q1,q2⟩:=h;obtain⟨g,rfl,o⟩:=nA a p1 n;rw[o]at p3 p4 f c i d j b q1 q2;rw[p3,p4,f,c,i,d,j,b,q1,q2];unfold je jR;simp only[bS,bL,lJ,an,ah,iA,iy,iL,ja];go_wp2
def xn(h:je T C0 RC RR Dd Rg nx I kk a)(hk:kk≠1)(d:∀b,je T C0 RC RR Dd Rg nx I kk b->mJ.wp W Q b w):bS.wp W Q a w:=by
 rw[K0];refine wp_seq<|iM (Pv h w) ?_;rintro ex b g⟨rfl,⟨f,c⟩,rfl⟩;have e:(kk==1)=u:=by simpa using hk
 rw[e]at c;exact wp_cond_false c<|d b f
def abH(h:je T C0 RC RR Dd Rg nx I 1 a)(e:∀b,je T C0 RC RR Dd Rg nx I 1 b->(iY<|iy bS).wp W Q b w):bS.wp W Q a w:=by rw[K0];refine wp_seq<|iM (Pv h w) ?_;rintro ex b f⟨rfl,⟨d,c⟩,rfl⟩;exact wp_cond_true c<|e b d
def NJ:mJ=aj (iA mJ) (aK (ai 39) (iY<|iy mJ) mE):=by kernel_rfl
def L6(h:je T C0 RC RR Dd Rg nx I kk a)(w:Y):(iA mJ).wp W (λex e k=>ex=l/\(je T C0 RC RR Dd Rg nx I kk e/\e.tmps.getD 39 q=Z (kk==2))/\k=w) a w:=by obtain⟨⟨p1,n,p3,p4,f,c,i,d,j,b⟩,q1,q2⟩:=h;obtain⟨g,rfl,o⟩:=nA a p1 n;rw[o]at p3 p4 f c i d j b q1 q2;rw[p3,p4,f,c,i,d,j,b,q1,q2];unfold je jR;simp only[mJ,bS,bL,lJ,an,ah,iA,iy,iL,ja,jG];go_wp2
def xW(h:je T C0 RC RR Dd Rg nx I kk a)(hk:kk≠2)(d:∀b,je T C0 RC RR Dd Rg nx I kk b->mE.wp W Q b w):mJ.wp W Q a w:=by
 rw[NJ];refine wp_seq<|iM (L6 h w) ?_;rintro ex b g⟨rfl,⟨f,c⟩,rfl⟩;have e:(kk==2)=u:=by simpa using hk
 rw[e]at c;exact wp_cond_false c<|d b f
def agt(h:je T C0 RC RR Dd Rg nx I 2 a)(e:∀b,je T C0 RC RR Dd Rg nx I 2 b->(iY<|iy mJ).wp W Q b w):mJ.wp W Q a w:=by rw[NJ];refine wp_seq<|iM (L6 h w) ?_;rintro ex b f⟨rfl,⟨d,c⟩,rfl⟩;exact wp_cond_true c<|e b d
def OV:mE=aj (iA mE) (aK (ai 49) (iY<|iy mE) nM):=by kernel_rfl
def KR(h:je T C0 RC RR Dd Rg nx I kk a)(w:Y):(iA mE).wp W (λex e k=>ex=l/\(je T C0 RC RR Dd Rg nx I kk e/\e.tmps.getD 49 q=Z (kk==3))/\k=w) a w:=by obtain⟨⟨p1,n,p3,p4,f,c,i,d,j,b⟩,q1,q2⟩:=h;obtain⟨g,rfl,o⟩:=nA a p1 n;rw[o]at p3 p4 f c i d j b q1 q2;rw[p3,p4,f,c,i,d,j,b,q1,q2];unfold je jR;simp only[mE,mJ,bS,bL,lJ,an,ah,iA,iy,iL,ja,jG];go_wp2
def zK(h:je T C0 RC RR Dd Rg nx I kk a)(hk:kk≠3)(d:∀b,je T C0 RC RR Dd Rg nx I kk b->nM.wp W Q b w):mE.wp W Q a w:=by
 rw[OV];refine wp_seq<|iM (KR h w) ?_;rintro ex b g⟨rfl,⟨f,c⟩,rfl⟩;have e:(kk==3)=u:=by simpa using hk
 rw[e]at c;exact wp_cond_false c<|d b f
def agA(h:je T C0 RC RR Dd Rg nx I 3 a)(e:∀b,je T C0 RC RR Dd Rg nx I 3 b->(iY<|iy mE).wp W Q b w):mE.wp W Q a w:=by rw[OV];refine wp_seq<|iM (KR h w) ?_;rintro ex b f⟨rfl,⟨d,c⟩,rfl⟩;exact wp_cond_true c<|e b d
def OM:nM=aj (iA nM) (aK (ai 63) (iY<|iy nM) ow):=by kernel_rfl
def Oz(h:je T C0 RC RR Dd Rg nx I kk a)(w:Y):(iA nM).wp W (λex f n=>ex=l/\(je T C0 RC RR Dd Rg nx I kk f/\f.tmps.getD 63 q=Z (kk==4))/\n=w) a w:=by obtain⟨⟨p1,k,p3,p4,e,j,c,d,i,b⟩,q1,q2⟩:=h;obtain⟨g,rfl,o⟩:=nA a p1 k;rw[o]at p3 p4 e j c d i b q1 q2;rw[p3,p4,e,j,c,d,i,b,q1,q2];unfold je jR;simp only[nM,mE,mJ,bS,bL,lJ,an,ah,iA,iy,iL,ja,jG];go_wp2
def Ai(h:je T C0 RC RR Dd Rg nx I kk a)(hk:kk≠4)(d:∀b,je T C0 RC RR Dd Rg nx I kk b->ow.wp W Q b w):nM.wp W Q a w:=by
 rw[OM];refine wp_seq<|iM (Oz h w) ?_;rintro ex b g⟨rfl,⟨f,c⟩,rfl⟩;have e:(kk==4)=u:=by simpa using hk
 rw[e]at c;exact wp_cond_false c<|d b f
def VU(h:je T C0 RC RR Dd Rg nx I 4 a)(e:∀b,je T C0 RC RR Dd Rg nx I 4 b->(iY<|iy nM).wp W Q b w):nM.wp W Q a w:=by rw[OM];refine wp_seq<|iM (Oz h w) ?_;rintro ex b f⟨rfl,⟨d,c⟩,rfl⟩;exact wp_cond_true c<|e b d
def Kl:ow=aj (iA ow) (aK (ai 73) (iY<|iy ow) oX):=by kernel_rfl
def KB(h:je T C0 RC RR Dd Rg nx I kk a)(w:Y):(iA ow).wp W (λex f n=>ex=l/\(je T C0 RC RR Dd Rg nx I kk f/\f.tmps.getD 73 q=Z (kk==5))/\n=w) a w:=by obtain⟨⟨p1,k,p3,p4,e,j,c,d,i,b⟩,q1,q2⟩:=h;obtain⟨g,rfl,o⟩:=nA a p1 k;rw[o]at p3 p4 e j c d i b q1 q2;rw[p3,p4,e,j,c,d,i,b,q1,q2];unfold je jR;simp only[ow,nM,mE,mJ,bS,bL,lJ,an,ah,iA,iy,iL,ja,jG];go_wp2
def Cq(h:je T C0 RC RR Dd Rg nx I kk a)(hk:kk≠5)(d:∀b,je T C0 RC RR Dd Rg nx I kk b->oX.wp W Q b w):ow.wp W Q a w:=by
 rw[Kl];refine wp_seq<|iM (KB h w) ?_;rintro ex b g⟨rfl,⟨f,c⟩,rfl⟩;have e:(kk==5)=u:=by simpa using hk
 rw[e]at c;exact wp_cond_false c<|d b f
def agJ(h:je T C0 RC RR Dd Rg nx I 5 a)(e:∀b,je T C0 RC RR Dd Rg nx I 5 b->(iY<|iy ow).wp W Q b w):ow.wp W Q a w:=by rw[Kl];refine wp_seq<|iM (KB h w) ?_;rintro ex b f⟨rfl,⟨d,c⟩,rfl⟩;exact wp_cond_true c<|e b d
def PC:oX=aj (iA oX) (aK (ai 89) (iY<|iy oX) pN):=by kernel_rfl
def LD(h:je T C0 RC RR Dd Rg nx I kk a)(w:Y):(iA oX).wp W (λex f n=>ex=l/\(je T C0 RC RR Dd Rg nx I kk f/\f.tmps.getD 89 q=Z (kk==6))/\n=w) a w:=by obtain⟨⟨p1,k,p3,p4,e,j,c,d,i,b⟩,q1,q2⟩:=h;obtain⟨g,rfl,o⟩:=nA a p1 k;rw[o]at p3 p4 e j c d i b q1 q2;rw[p3,p4,e,j,c,d,i,b,q1,q2];unfold je jR;simp only[oX,ow,nM,mE,mJ,bS,bL,lJ,an,ah,iA,iy,iL,ja,jG];go_wp2
def D5(h:je T C0 RC RR Dd Rg nx I kk a)(hk:kk≠6)(d:∀b,je T C0 RC RR Dd Rg nx I kk b->pN.wp W Q b w):oX.wp W Q a w:=by
 rw[PC];refine wp_seq<|iM (LD h w) ?_;rintro ex b g⟨rfl,⟨f,c⟩,rfl⟩;have e:(kk==6)=u:=by simpa using hk
 rw[e]at c;exact wp_cond_false c<|d b f
def WL(h:je T C0 RC RR Dd Rg nx I 6 a)(e:∀b,je T C0 RC RR Dd Rg nx I 6 b->(iY<|iy oX).wp W Q b w):oX.wp W Q a w:=by rw[PC];refine wp_seq<|iM (LD h w) ?_;rintro ex b f⟨rfl,⟨d,c⟩,rfl⟩;exact wp_cond_true c<|e b d
def OX:pN=aj (iA pN) (aK (ai 105) (iY<|iy pN) qF):=by kernel_rfl
def KH(h:je T C0 RC RR Dd Rg nx I kk a)(w:Y):(iA pN).wp W (λex f n=>ex=l/\(je T C0 RC RR Dd Rg nx I kk f/\f.tmps.getD 105 q=Z (kk==7))/\n=w) a w:=by obtain⟨⟨p1,k,p3,p4,e,j,c,d,i,b⟩,q1,q2⟩:=h;obtain⟨g,rfl,o⟩:=nA a p1 k;rw[o]at p3 p4 e j c d i b q1 q2;rw[p3,p4,e,j,c,d,i,b,q1,q2];unfold je jR;simp only[pN,oX,ow,nM,mE,mJ,bS,bL,lJ,an,ah,iA,iy,iL,ja,jG];go_wp2
def IE(h:je T C0 RC RR Dd Rg nx I kk a)(hk:kk≠7)(d:∀b,je T C0 RC RR Dd Rg nx I kk b->qF.wp W Q b w):pN.wp W Q a w:=by
 rw[OX];refine wp_seq<|iM (KH h w) ?_;rintro ex b g⟨rfl,⟨f,c⟩,rfl⟩;have e:(kk==7)=u:=by simpa using hk
 rw[e]at c;exact wp_cond_false c<|d b f
def Xt(h:je T C0 RC RR Dd Rg nx I 7 a)(e:∀b,je T C0 RC RR Dd Rg nx I 7 b->(iY<|iy pN).wp W Q b w):pN.wp W Q a w:=by rw[OX];refine wp_seq<|iM (KH h w) ?_;rintro ex b f⟨rfl,⟨d,c⟩,rfl⟩;exact wp_cond_true c<|e b d
def LB:qF=aj (iA qF) (aK (ai 119) (iY<|iy qF) rv):=by kernel_rfl
def OI(h:je T C0 RC RR Dd Rg nx I kk a)(w:Y):(iA qF).wp W (λex f n=>ex=l/\(je T C0 RC RR Dd Rg nx I kk f/\f.tmps.getD 119 q=Z (kk==8))/\n=w) a w:=by obtain⟨⟨p1,k,p3,p4,e,j,c,d,i,b⟩,q1,q2⟩:=h;obtain⟨g,rfl,o⟩:=nA a p1 k;rw[o]at p3 p4 e j c d i b q1 q2;rw[p3,p4,e,j,c,d,i,b,q1,q2];unfold je jR;simp only[qF,pN,oX,ow,nM,mE,mJ,bS,bL,lJ,an,ah,iA,iy,iL,ja,jG];go_wp2
def Ko(h:je T C0 RC RR Dd Rg nx I kk a)(hk:kk≠8)(d:∀b,je T C0 RC RR Dd Rg nx I kk b->rv.wp W Q b w):qF.wp W Q a w:=by
 rw[LB];refine wp_seq<|iM (OI h w) ?_;rintro ex b g⟨rfl,⟨f,c⟩,rfl⟩;have e:(kk==8)=u:=by simpa using hk
 rw[e]at c;exact wp_cond_false c<|d b f
def afw(h:je T C0 RC RR Dd Rg nx I 8 a)(e:∀b,je T C0 RC RR Dd Rg nx I 8 b->(iY<|iy qF).wp W Q b w):qF.wp W Q a w:=by rw[LB];refine wp_seq<|iM (OI h w) ?_;rintro ex b f⟨rfl,⟨d,c⟩,rfl⟩;exact wp_cond_true c<|e b d
def Ka:rv=aj (iA rv) (aK (ai 133) (iY<|iy rv) Ba):=by kernel_rfl
def L3(h:je T C0 RC RR Dd Rg nx I kk a)(w:Y):(iA rv).wp W (λex f n=>ex=l/\(je T C0 RC RR Dd Rg nx I kk f/\f.tmps.getD 133 q=Z (kk==9))/\n=w) a w:=by obtain⟨⟨p1,k,p3,p4,e,j,c,d,i,b⟩,q1,q2⟩:=h;obtain⟨g,rfl,o⟩:=nA a p1 k;rw[o]at p3 p4 e j c d i b q1 q2;rw[p3,p4,e,j,c,d,i,b,q1,q2];unfold je jR;simp only[rv,qF,pN,oX,ow,nM,mE,mJ,bS,bL,lJ,an,ah,iA,iy,iL,ja,jG];go_wp2
def Qk(h:je T C0 RC RR Dd Rg nx I kk a)(hk:kk≠9)(d:∀b,je T C0 RC RR Dd Rg nx I kk b->Ba.wp W Q b w):rv.wp W Q a w:=by
 rw[Ka];refine wp_seq<|iM (L3 h w) ?_;rintro ex b g⟨rfl,⟨f,c⟩,rfl⟩;have e:(kk==9)=u:=by simpa using hk
 rw[e]at c;exact wp_cond_false c<|d b f
def V4(h:je T C0 RC RR Dd Rg nx I 9 a)(e:∀b,je T C0 RC RR Dd Rg nx I 9 b->(iY<|iy rv).wp W Q b w):rv.wp W Q a w:=by rw[Ka];refine wp_seq<|iM (L3 h w) ?_;rintro ex b f⟨rfl,⟨d,c⟩,rfl⟩;exact wp_cond_true c<|e b d
def sw1(h:je T C0 RC RR Dd Rg nx I 1 a)(c:∀b,je T C0 RC RR Dd Rg nx I 1 b->(iY<|iy bS).wp W Q b w):bS.wp W Q a w:=abH h c
def Qc(h:je T C0 RC RR Dd Rg nx I 2 a)(d:∀b,je T C0 RC RR Dd Rg nx I 2 b->(iY<|iy mJ).wp W Q b w):bS.wp W Q a w:=xn (h) (by decide) λe c=>agt c d
def XD(h:je T C0 RC RR Dd Rg nx I 3 a)(c:∀b,je T C0 RC RR Dd Rg nx I 3 b->(iY<|iy mE).wp W Q b w):bS.wp W Q a w:=xn (h) (by decide) λf e=>xW (e) (by decide) λg d=>agA d c
def Zp(h:je T C0 RC RR Dd Rg nx I 4 a)(e:∀b,je T C0 RC RR Dd Rg nx I 4 b->(iY<|iy nM).wp W Q b w):bS.wp W Q a w:=xn (h) (by decide) λi d=>xW (d) (by decide) λg f=>zK (f) (by decide) λj c=>VU c e
def sw5(h:je T C0 RC RR Dd Rg nx I 5 a)(f:∀b,je T C0 RC RR Dd Rg nx I 5 b->(iY<|iy ow).wp W Q b w):bS.wp W Q a w:=xn (h) (by decide) λn e=>xW (e) (by decide) λi g=>zK (g) (by decide) λk c=>Ai (c) (by decide) λj d=>agJ d f
def SZ(h:je T C0 RC RR Dd Rg nx I 6 a)(c:∀b,je T C0 RC RR Dd Rg nx I 6 b->(iY<|iy oX).wp W Q b w):bS.wp W Q a w:=xn (h) (by decide) λo e=>xW (e) (by decide) λk f=>zK (f) (by decide) λn g=>Ai (g) (by decide) λj d=>Cq (d) (by decide) λp i=>WL i c
def sw7(h:je T C0 RC RR Dd Rg nx I 7 a)(d:∀b,je T C0 RC RR Dd Rg nx I 7 b->(iY<|iy pN).wp W Q b w):bS.wp W Q a w:=xn (h) (by decide) λr f=>xW (f) (by decide) λs j=>zK (j) (by decide) λp c=>Ai (c) (by decide) λk e=>Cq (e) (by decide) λn i=>D5 (i) (by decide) λo g=>Xt g d
def WC(h:je T C0 RC RR Dd Rg nx I 8 a)(d:∀b,je T C0 RC RR Dd Rg nx I 8 b->(iY<|iy qF).wp W Q b w):bS.wp W Q a w:=xn (h) (by decide) λt f=>xW (f) (by decide) λr g=>zK (g) (by decide) λs i=>Ai (i) (by decide) λn e=>Cq (e) (by decide) λo k=>D5 (k) (by decide) λp c=>IE (c) (by decide) λv j=>afw j d
def Qq(h:je T C0 RC RR Dd Rg nx I 9 a)(d:∀b,je T C0 RC RR Dd Rg nx I 9 b->(iY<|iy rv).wp W Q b w):bS.wp W Q a w:=xn (h) (by decide) λx g=>xW (g) (by decide) λt i=>zK (i) (by decide) λv j=>Ai (j) (by decide) λo f=>Cq (f) (by decide) λr n=>D5 (n) (by decide) λs c=>IE (c) (by decide) λp k=>Ko (k) (by decide) λy e=>V4 e d
def PX(h:je T C0 RC RR Dd Rg nx I 10 a)(f:∀b,je T C0 RC RR Dd Rg nx I 10 b->Ba.wp W Q b w):bS.wp W Q a w:=xn (h) (by decide) λz j=>xW (j) (by decide) λx o=>zK (o) (by decide) λy c=>Ai (c) (by decide) λv i=>Cq (i) (by decide) λt p=>D5 (p) (by decide) λr e=>IE (e) (by decide) λs k=>Ko (k) (by decide) λA g=>Qk (g) (by decide) λd n=>f d n
end
noncomputable section
variable{w0 w w1:Y}{T C0 RC RR Dd Rg nx I:Nat}{va vb vc vd:E}{hs0:Nat->Bool}{v0:Nat->Int}{hs:Nat->Bool}{v:Nat->Int}{r:Nat->Int}{a:Act}{kk:Int}
def RF(h:je T C0 RC RR Dd Rg nx I kk a)(c:kY w0 w T C0 RC RR Dd Rg va vb vc vd hs0 v0 hs v r){X:Int}(d:x<4)(i1:w.cell? ⟨I,1,H⟩=G (J L (x:Nat)))(i2:w.cell? ⟨I,2,H⟩=G (J L X)):(iY<|iy bS).wp W (λex f j=>ex=l/\jR T C0 RC RR Dd Rg nx f/\kY w0 j T C0 RC RR Dd Rg va vb vc vd hs0 v0 hs v (upd r x X)) a w:=by obtain⟨⟨p1,s,p3,p4,n,k,i,e,o,b⟩,q1,q2⟩:=h;obtain⟨g,rfl,p⟩:=nA a p1 s;rw[p]at p3 p4 n k i e o b q1;rw[p3,p4,n,k,i,e,o,b,q1];refine iM (Zw T C0 RC RR Dd Rg nx I w g x X d i1 i2 _ (c.rG.cell d) c.rG.frozen) ?_;rintro ex f j⟨rfl,y,w1,t,rfl⟩;exact⟨rfl,y,(c.below t).reg d X⟩
def br2(h:je T C0 RC RR Dd Rg nx I kk a)(c:kY w0 w T C0 RC RR Dd Rg va vb vc vd hs0 v0 hs v r)(d:x<4)(i:y<100)(i1:w.cell? ⟨I,1,H⟩=G (J L (x:Nat)))(i2:w.cell? ⟨I,2,H⟩=G (J L (y:Nat))):(iY<|iy mJ).wp W (λex f j=>ex=l/\jR T C0 RC RR Dd Rg nx f/\kY w0 j T C0 RC RR Dd Rg va vb vc vd hs0 v0 hs v (upd r x<|v y)) a w:=by obtain⟨⟨p1,t,p3,p4,o,n,e,k,p,b⟩,q1,q2⟩:=h;obtain⟨g,rfl,s⟩:=nA a p1 t;rw[s]at p3 p4 o n e k p b q1;rw[p3,p4,o,n,e,k,p,b,q1];refine iM (UB T C0 RC RR Dd Rg nx I w g x y (v y) d i i1 i2 (by rw[c.rD.cell<|by omega,rX _ _ i]) _ (c.rG.cell d) c.rG.frozen c.rG.lt) ?_;rintro ex f j⟨rfl,B,w1,z,rfl⟩;exact⟨rfl,B,(c.below z).reg d<|v y⟩
def aed:iY (iy mE)=aj (iA<|iY<|iy mE) t15:=by kernel_rfl
def br3(h:je T C0 RC RR Dd Rg nx I kk a)(s:kY w0 w T C0 RC RR Dd Rg va vb vc vd hs0 v0 hs v r)(o:x<100)(C:y<4)(f:I≠Dd)(i1:w.cell? ⟨I,1,H⟩=G (J L (x:Nat)))(i2:w.cell? ⟨I,2,H⟩=G (J L (y:Nat))):(iY<|iy mE).wp W (λex p z=>ex=l/\jR T C0 RC RR Dd Rg nx p/\kY w0 z T C0 RC RR Dd Rg va vb vc vd hs0 v0 (upd hs x D) (upd v x<|r y) r) a w:=by
 rw[aed];obtain⟨⟨p1,F,p3,p4,j,k,d,e,i,c⟩,q1,q2⟩:=h;obtain⟨g,rfl,B⟩:=nA a p1 F;rw[B]at p3 p4 j k d e i c q1;rw[p3,p4,j,k,d,e,i,c,q1];refine wp_seq<|iM (Qj T C0 RC RR Dd Rg nx I w g x o i1 _ (s.rD.cell<|by omega) s.rD.frozen) ?_;rintro ex p z⟨rfl,⟨t,n⟩,rfl⟩;have b:=s.has o D;have M:(w.setCell ⟨Dd,x,H⟩<|Z D).cell? ⟨I,1,H⟩=G (J L<|x):=by rw[bh _ _ _ _ λh=>f (congrArg Addr.block h).symm];exact i1
 have P:(w.setCell ⟨Dd,x,H⟩<|Z D).cell? ⟨I,2,H⟩=G (J L<|y):=by rw[bh _ _ _ _ λh=>f (congrArg Addr.block h).symm];exact i2
 generalize w.setCell ⟨Dd,x,H⟩ (Z D)=K at*;obtain⟨p1,F,p3,p4,j,k,d,e,i,c⟩:=t;obtain⟨O,rfl,B⟩:=nA p p1 F;rw[B]at p3 p4 j k d e i c n;show t15.wp _ _ _ _;rw[p3,p4,j,k,d,e,i,c,n];refine iM (Vd T C0 RC RR Dd Rg nx I K O x y (r y) o C M P (by rw[b.rG.cell C,xL _ C]) _ (b.rD.cell<|by omega) b.rD.frozen b.rD.lt) ?_;rintro ex p z⟨rfl,t,w1,N,rfl⟩;exact⟨rfl,t,(b.below N).val o<|r y⟩
def TZ(h:je T C0 RC RR Dd Rg nx I kk a)(c:kY w0 w T C0 RC RR Dd Rg va vb vc vd hs0 v0 hs v r)(d:x<100)(e:I≠Dd)(i1:w.cell? ⟨I,1,H⟩=G (J L (x:Nat))):(iY<|iy nM).wp W (λex i j=>ex=l/\jR T C0 RC RR Dd Rg nx i/\kY w0 j T C0 RC RR Dd Rg va vb vc vd hs0 v0 (upd hs x u) (upd v x 0) r) a w:=by obtain⟨⟨p1,y,p3,p4,o,n,k,f,p,b⟩,q1,q2⟩:=h;obtain⟨g,rfl,s⟩:=nA a p1 y;rw[s]at p3 p4 o n k f p b q1;rw[p3,p4,o,n,k,f,p,b,q1];refine iM (Uu T C0 RC RR Dd Rg nx I w g x d i1 _ _ (c.rD.cell<|by omega) (c.rD.cell<|by omega) c.rD.frozen e) ?_;rintro ex i j⟨rfl,t,rfl⟩;exact⟨rfl,t,(c.has d u).val d 0⟩
def Uv(h:je T C0 RC RR Dd Rg nx I kk a)(d:kY w0 w T C0 RC RR Dd Rg va vb vc vd hs0 v0 hs v r){lo hi go ng:Nat}(j:x<4)(B:y<ng)(i:lo<=hi)(N:hi<=99)(f:vc=az (G ⟨b,go,H⟩) ng c)(g0:w.cell? ⟨b,go+y*2,H⟩=G (J L (lo:Nat)))(K:w.cell? ⟨b,go+y*2+1,H⟩=G (J L (hi:Nat)))(i1:w.cell? ⟨I,1,H⟩=G (J L (x:Nat)))(i2:w.cell? ⟨I,2,H⟩=G (J L (y:Nat))):(iY<|iy ow).wp W (λex o n=>ex=l/\jR T C0 RC RR Dd Rg nx o/\kY w0 n T C0 RC RR Dd Rg va vb vc vd hs0 v0 hs v (upd r x<|lQ hs v lo<|hi+1-lo)) a w:=by obtain⟨⟨p1,C,p3,p4,t,s,p,k,z,e⟩,q1,q2⟩:=h;obtain⟨g,rfl,O⟩:=nA a p1 C;rw[O]at p3 p4 t s p k z e q1;rw[p3,p4,t,s,p,k,z,e,q1];refine iM (XO T C0 RC RR Dd Rg nx I w g x y lo hi b go ng c hs v j B i N i1 i2 (by rw[d.rT.cell<|by omega,<-f];rfl) g0 K d.rD.J7 _ (d.rG.cell j) d.rG.frozen d.rG.lt) ?_;rintro ex o n⟨rfl,F,w1,M,rfl⟩;exact⟨rfl,F,(d.below M).reg j _⟩
def br6(h:je T C0 RC RR Dd Rg nx I kk a)(d:kY w0 w T C0 RC RR Dd Rg va vb vc vd hs0 v0 hs v r){lo hi go ng:Nat}(j:x<4)(B:y<ng)(i:lo<=hi)(N:hi<=99)(f:vc=az (G ⟨b,go,H⟩) ng c)(g0:w.cell? ⟨b,go+y*2,H⟩=G (J L (lo:Nat)))(K:w.cell? ⟨b,go+y*2+1,H⟩=G (J L (hi:Nat)))(i1:w.cell? ⟨I,1,H⟩=G (J L (x:Nat)))(i2:w.cell? ⟨I,2,H⟩=G (J L (y:Nat))):(iY<|iy oX).wp W (λex o n=>ex=l/\jR T C0 RC RR Dd Rg nx o/\kY w0 n T C0 RC RR Dd Rg va vb vc vd hs0 v0 hs v (upd r x ((mY hs lo<|hi+1-lo:Nat):Int))) a w:=by obtain⟨⟨p1,C,p3,p4,t,s,p,k,z,e⟩,q1,q2⟩:=h;obtain⟨g,rfl,O⟩:=nA a p1 C;rw[O]at p3 p4 t s p k z e q1;rw[p3,p4,t,s,p,k,z,e,q1];refine iM (adN T C0 RC RR Dd Rg nx I w g x y lo hi b go ng c hs v j B i N i1 i2 (by rw[d.rT.cell<|by omega,<-f];rfl) g0 K d.rD.J7 _ (d.rG.cell j) d.rG.frozen d.rG.lt) ?_;rintro ex o n⟨rfl,F,w1,M,rfl⟩;exact⟨rfl,F,(d.below M).reg j _⟩
def Ti(h:je T C0 RC RR Dd Rg nx I kk a)(b:kY w0 w T C0 RC RR Dd Rg va vb vc vd hs0 v0 hs v r){C:Nat}(e:x<4)(f:y<4)(d:C<4)(i1:w.cell? ⟨I,1,H⟩=G (J L (x:Nat)))(i2:w.cell? ⟨I,2,H⟩=G (J L (y:Nat)))(i3:w.cell? ⟨I,3,H⟩=G (J L (C:Nat))):(iY<|iy pN).wp W (λex p k=>ex=l/\jR T C0 RC RR Dd Rg nx p/\kY w0 k T C0 RC RR Dd Rg va vb vc vd hs0 v0 hs v (upd r x<|wrap64<|r y+r C)) a w:=by obtain⟨⟨p1,B,p3,p4,o,n,i,j,s,c⟩,q1,q2⟩:=h;obtain⟨g,rfl,t⟩:=nA a p1 B;rw[t]at p3 p4 o n i j s c q1;rw[p3,p4,o,n,i,j,s,c,q1];refine iM (afF T C0 RC RR Dd Rg nx I w g x y C (r y) (r C) e f d i1 i2 i3 (by rw[b.rG.cell f,xL _ f]) (by rw[b.rG.cell d,xL _ d]) _ (b.rG.cell e) b.rG.frozen b.rG.lt) ?_;rintro ex p k⟨rfl,F,w1,z,rfl⟩;exact⟨rfl,F,(b.below z).reg e _⟩
def Vx(h:je T C0 RC RR Dd Rg nx I kk a)(b:kY w0 w T C0 RC RR Dd Rg va vb vc vd hs0 v0 hs v r){C:Nat}(e:x<4)(f:y<4)(d:C<4)(i1:w.cell? ⟨I,1,H⟩=G (J L (x:Nat)))(i2:w.cell? ⟨I,2,H⟩=G (J L (y:Nat)))(i3:w.cell? ⟨I,3,H⟩=G (J L (C:Nat))):(iY<|iy qF).wp W (λex p k=>ex=l/\jR T C0 RC RR Dd Rg nx p/\kY w0 k T C0 RC RR Dd Rg va vb vc vd hs0 v0 hs v (upd r x<|wrap64<|r y-r C)) a w:=by obtain⟨⟨p1,B,p3,p4,o,n,i,j,s,c⟩,q1,q2⟩:=h;obtain⟨g,rfl,t⟩:=nA a p1 B;rw[t]at p3 p4 o n i j s c q1;rw[p3,p4,o,n,i,j,s,c,q1];refine iM (abq T C0 RC RR Dd Rg nx I w g x y C (r y) (r C) e f d i1 i2 i3 (by rw[b.rG.cell f,xL _ f]) (by rw[b.rG.cell d,xL _ d]) _ (b.rG.cell e) b.rG.frozen b.rG.lt) ?_;rintro ex p k⟨rfl,F,w1,z,rfl⟩;exact⟨rfl,F,(b.below z).reg e _⟩
def Yz(h:je T C0 RC RR Dd Rg nx I kk a)(c:kY w0 w T C0 RC RR Dd Rg va vb vc vd hs0 v0 hs v r){C:Nat}(e:x<4)(d:y<4)(F:C<=16)(i1:w.cell? ⟨I,1,H⟩=G (J L (x:Nat)))(i2:w.cell? ⟨I,2,H⟩=G (J L (y:Nat)))(i3:w.cell? ⟨I,3,H⟩=G (J L (C:Nat))):(iY<|iy rv).wp W (λex i o=>ex=l/\jR T C0 RC RR Dd Rg (if r x<r y then C else nx) i/\kY w0 o T C0 RC RR Dd Rg va vb vc vd hs0 v0 hs v r) a w:=by obtain⟨⟨p1,B,p3,p4,k,n,f,j,p,b⟩,q1,q2⟩:=h;obtain⟨g,rfl,s⟩:=nA a p1 B;rw[s]at p3 p4 k n f j p b q1;rw[p3,p4,k,n,f,j,p,b,q1];refine iM (Sg T C0 RC RR Dd Rg nx I w g x y C (r x) (r y) e d F i1 i2 i3 (by rw[c.rG.cell e,xL _ e])<|by rw[c.rG.cell d,xL _ d]) ?_;rintro ex i o⟨rfl,t,z⟩;exact⟨rfl,t,c.below z⟩
end
end
end Go.Proofs.YtldeiiffabfmeaaGreatDoor
