/- - -/
import Derived.Test.YtldeiiffabfmeaaGreatDoorAmm
set_option linter.all false
set_option maxRecDepth 100000
set_option maxHeartbeats 4000000
open Option renaming some->l,none->E,getD_some->ah
open Go renaming undef->z,Value->U,World->V,Code->aj,Addr->ax,Operand->aE,Oper->aP,YieldsIf->bA
open Go.Value renaming pointer->F,int->J,slice->O,bool->Z,agg->M,tuple->aN,oneCell'->aX,nilFunc->bw
open Go.IntKind renaming i64->H
open Go.Act renaming put->L
open Go.Proofs.Tryz renaming prog->W,f14->ak,f35->aW,underlying61->bn,zeroCells65->bz,underlying73->bF,zeroCells61->bH
open Bool renaming true->q,false->au,and_eq_true->aA
open Go.Exit renaming normal->ae,panic->bB
open Go.Obj renaming cells->ai
open Go.Ground renaming data->an
open Option.some renaming inj->ao
open Go.Operand renaming tmp->aq
open Go.Code renaming seq->ar,block->aU,loop->aY,region->bj
open Int renaming le_refl->ay
open Go.Next renaming value->az
open List renaming range->aD,map_cons->aI,map_nil->aJ,size_toArray->bm,getElem?_eq_some_iff->bC,all_eq_true->bJ,getD_eq_getElem?_getD->bK,extract_toArray->bO,extract_eq_take_drop->bP,take_succ_cons->bQ,take_zero->bR,drop_zero->bT,range_succ->bV
open Nat renaming le_refl->aF,mul_comm->aG,reduceEqDiff->aK,add_assoc->aM,zero_le->bh,le_trans->bD,add_zero->bE,sub_zero->bU
open List.range renaming loop->aH
open Go.RowKit.Below renaming refl->aQ,heap_setCell->aZ,heap_alloc->bu
open Go.World renaming cell?_of_block->aV,block_lt_of_cell?->bl,size_alloc->bq,rangeAt_setCells_same->bG,frozen?_of_block->bN
open Array renaming toArray_toList->bd,length_toList->bg,replicate->bI,getElem?_setIfInBounds->bM
variable{y f h j:Nat}{k:Go.Act}{n:Option ax}{o p s:V}{A C D K R:U}{X Y:List U}
namespace Go.Proofs.YtldeiiffabfmeaaGreatDoor
noncomputable section
open Go.RowKit Go.Maps Go.Rel Go.Sort
noncomputable section
variable{w0 w w1:V}{T C0 RC RR Dd Rg nx I:Nat}{va vb vc vd:U}{hs0:Nat->Bool}{v0:Nat->Int}{a:Act}{t:iP}{m:jc}
def Vg(h:jR T C0 RC RR Dd Rg nx a){nc:Nat}(r:w.cell? ⟨T,3,E⟩=l (O n nc y))(k:nx<nc):b4.wp W (λex a o=>ex=ae/\jR T C0 RC RR Dd Rg nx a/\o=w) a w:=by
 obtain⟨p1,j,p3,p4,e,c,f,d,i,b⟩:=h;obtain⟨g,rfl,p⟩:=nA a p1 j;rw[p]at p3 p4 e c f d i b;rw[p3,p4,e,c,f,d,i,b];have i2:(nx:Int)<(nc:Int):=by omega
 unfold jR;simp only[b4,bL,lJ,aW,ah,iA,iy,iL,ja];go_wp2
def aaW(h:jR T C0 RC RR Dd Rg nx a){nc:Nat}(r:w.cell? ⟨T,3,E⟩=l (O n nc y))(k:¬nx<nc):b4.wp W (λex a o=>ex=.exit 0/\jR T C0 RC RR Dd Rg nx a/\o=w) a w:=by
 obtain⟨p1,j,p3,p4,e,c,f,d,i,b⟩:=h;obtain⟨g,rfl,p⟩:=nA a p1 j;rw[p]at p3 p4 e c f d i b;rw[p3,p4,e,c,f,d,i,b];have i2:¬(nx:Int)<(nc:Int):=by omega
 unfold jR;simp only[b4,bL,lJ,aW,ah,iA,iy,iL,ja];go_wp2
def Vs(h:jR T C0 RC RR Dd Rg nx a){off nc:Nat}{K A B C:Int}(r:w.cell? ⟨T,3,E⟩=l (O (l ⟨y,off,E⟩) nc f))(n:nx<nc)(s:w.cell? ⟨y,off+nx*4,E⟩=l (J H K))(k1:w.cell? ⟨y,off+nx*4+1,E⟩=l (J H A))(k2:w.cell? ⟨y,off+nx*4+2,E⟩=l (J H B))(k3:w.cell? ⟨y,off+nx*4+3,E⟩=l (J H C)):b5.wp W (λex a p=>ex=ae/\(jR T C0 RC RR Dd Rg nx a/\a.tmps.getD 10 z=F (l ⟨w.heap.size,0,E⟩))/\p=w.alloc (ai #[J H K,J H A,J H B,J H C] 161)) a w:=by
 obtain⟨p1,o,p3,p4,d,i,e,c,j,b⟩:=h;obtain⟨g,rfl,k⟩:=nA a p1 o;rw[k]at p3 p4 d i e c j b;rw[p3,p4,d,i,e,c,j,b];have i1:(0:Int)<=(nx:Int):=by omega
 have i2:(nx:Int)<(nc:Int):=by omega
 unfold jR;simp only[b5,bL,lJ,aW,ah,iA,iy,iL,ja];go_wp2
def acn(h:jR T C0 RC RR Dd Rg nx a)(b:a.tmps.getD 10 z=F (l ⟨I,0,E⟩))(k:nx<16):b6.wp W (λex a n=>ex=ae/\(jR T C0 RC RR Dd Rg (nx+1) a/\a.tmps.getD 10 z=F (l ⟨I,0,E⟩))/\n=w) a w:=by obtain⟨p1,p,p3,p4,i,d,f,j,e,c⟩:=h;obtain⟨g,rfl,o⟩:=nA a p1 p;rw[o]at p3 p4 i d f j e c b;rw[p3,p4,i,d,f,j,e,c,b];unfold jR;simp only[b6,bL,lJ,aW,ah,iA,iy,iL,ja];go_wp2
def aeJ(h:jR T C0 RC RR Dd Rg nx a)(b:a.tmps.getD 10 z=F (l ⟨I,0,E⟩)){K:Int}(p:w.cell? ⟨I,0,E⟩=l (J H K)):b7.wp W (λex a k=>ex=ae/\je T C0 RC RR Dd Rg nx I K a/\k=w) a w:=by obtain⟨p1,n,p3,p4,i,d,f,j,e,c⟩:=h;obtain⟨g,rfl,o⟩:=nA a p1 n;rw[o]at p3 p4 i d f j e c b;rw[p3,p4,i,d,f,j,e,c,b];unfold je jR;simp only[b7,bL,lJ,aW,ah,iA,iy,iL,ja];go_wp2
def P9(h:je T C0 RC RR Dd Rg nx I 10 a){hs:Nat->Bool}{v r:Nat->Int}(c:kY w0 w T C0 RC RR Dd Rg va vb vc vd hs0 v0 hs v r):Ba.wp W (λex b f=>ex=.ret/\(b.defers=[]/\b.tmps.getD 4 z=F (l ⟨RC,0,E⟩)/\b.tmps.getD 5 z=F (l ⟨RR,0,E⟩)/\b.tmps.getD 6 z=Z q)/\∃w1:V,(w1.heap=w.heap/\Below w.heap.size w w1)/\f=(w1.setCells RC 0<|kG hs0 v0).setCells RR 0 (jT r)) a w:=by have o:=c.ord;obtain⟨⟨p1,i,p3,p4,n,g,x,u,s,k⟩,q1,q2⟩:=h;obtain⟨c1,e⟩:=c.yh;obtain⟨c2,d⟩:=c.yy;rw[adC];refine wp_seq<|iM (Zx w a C0 RC RR Rg (kG hs0 v0) (jT r) (tI _ _) rfl (all_oneCell_toArray<|CC _ _) (by simp[jT,aX]) p1 i p4 s n g (yY c.rC<|tI _ _) (yY c.rG rfl) (xr e) (xr d) (by omega) (by omega) (by omega) (by omega)<|by omega) ?_;rintro ex b f⟨rfl,j,p⟩;exact wp_ret ⟨rfl,j,p⟩
end
noncomputable section
variable{w0 w w1:V}{T C0 RC RR Dd Rg nx I:Nat}{va vb vc vd:U}{hs0:Nat->Bool}{v0:Nat->Int}{a:Act}{t:iP}{m:jc}
def Tc(w0:V)(T C0 RC RR Dd Rg:Nat)(va vb vc vd:U)(hs0:Nat->Bool)(v0:Nat->Int)(m:jc)(b:Bool)(e:List U)(c:Act)(f:V):Prop:=(c.defers=[]/\c.tmps.getD 4 z=F (l ⟨RC,0,E⟩)/\c.tmps.getD 5 z=F (l ⟨RR,0,E⟩)/\c.tmps.getD 6 z=Z b)/\∃w1 d:V,kY w0 w1 T C0 RC RR Dd Rg va vb vc vd hs0 v0 m.hs (valOf m.hs m.vl) m.r/\(d.heap=w1.heap/\Below w1.heap.size w1 d)/\f=(d.setCells RC 0 e).setCells RR 0 (jT m.r)
def XE(TO:pk t)(hT:lE w0 va vb vc vd t)(G:m.nx<t.nc)(h:jR T C0 RC RR Dd Rg m.nx a)(hW:kY w0 w T C0 RC RR Dd Rg va vb vc vd hs0 v0 m.hs (valOf m.hs m.vl) m.r){Q:Exit->Act->V->Prop}(f:t.c (4*m.nx)≠10->∀a' w',jR T C0 RC RR Dd Rg (lV t m).nx a'->kY w0 w' T C0 RC RR Dd Rg va vb vc vd hs0 v0 (lV t m).hs (valOf (lV t m).hs (lV t m).vl) (lV t m).r->Q ae a' w')(aB:t.c (4*m.nx)=10->∀a' w',Tc w0 T C0 RC RR Dd Rg va vb vc vd hs0 v0 m q (kG hs0 v0) a' w'->Q .ret a' w'):bL.wp W Q a w:=by
 obtain⟨k1,k2,k3,k4,k5⟩:=TO.keys;have x:=nO k5 G;unfold qG at x;obtain⟨ac,av,aT,hn,aC⟩:=hT.c;obtain⟨cb,off,rfl,aa,Y⟩:=aC (by omega);have ce:∀i,i<4->w.cell? ⟨cb,off+m.nx*4+i,E⟩=l (J H<|t.c<|4*m.nx+i):=λi hi=>by rw[hW.tT.cell aa,aM,Y _<|by omega,aG]
 have t3:w.cell? ⟨T,3,E⟩=l (O (l ⟨cb,off,E⟩) t.nc av):=by rw[hW.rT.cell<|by omega,<-aT];rfl
 obtain⟨kk,aL,a7,a0⟩:=TO.kind G;have c0:=ce 0 (by omega);have c1:=ce 1 (by omega);have c2:=ce 2 (by omega);have c3:=ce 3 (by omega);rw[bE,bE]at c0;have a8:=TO.wf (4*m.nx+2) (by omega);unfold lV at f;rw[aL]at c0 x f aB;generalize t.c (4*m.nx+1)=A at*;generalize t.c (4*m.nx+2)=X at*;generalize t.c (4*m.nx+3)=C at*;rw[OH];refine wp_seq<|iM (Vg h t3 G) ?_;rintro ex a1 w'⟨rfl,h1,p⟩;rw[p];refine wp_block<|wp_seq<|iM (Vs h1 t3 G c0 c1 c2 c3) ?_;rintro ex a2 am⟨rfl,⟨h2,al⟩,p⟩;rw[p];have aR:Below w.heap.size w<|w.alloc<|ai #[J H (kk:Int),J H A,J H X,J H C] 161:=(aQ _ _).alloc (aF _) _;have d:=hW.below aR;have rI:=km w [J H (kk:Int),J H A,J H X,J H C] 161;have i0:=rI.cell (j:=0) (by simp);have i1:=rI.cell (j:=1) (by simp);have i2:=rI.cell (j:=2) (by simp);have i3:=rI.cell (j:=3) (by simp);have aw:w.heap.size≠Dd:=by have:=hW.rD.lt;omega
 generalize w.alloc (ai #[J H (kk:Int),J H A,J H X,J H C] 161)=w2 at*;generalize w.heap.size=I at*;refine wp_seq<|iM (acn h2 al<|by omega) ?_;rintro ex a3 am⟨rfl,⟨h3,ap⟩,p⟩;rw[p];clear p;refine wp_seq<|iM (aeJ h3 ap i0) ?_;rintro ex a4 am⟨rfl,y,p⟩;rw[p];clear p;refine wp_block ?_;have aO:kk=1\/kk=2\/kk=3\/kk=4\/kk=5\/kk=6\/kk=7\/kk=8\/kk=9\/kk=10:=by omega
 rcases aO with rfl|rfl|rfl|rfl|rfl|rfl|rfl|rfl|rfl|rfl;.have b:=x;obtain⟨A,rfl,_,B⟩:=lA b<|ay 0;refine sw1 y λD s=>iM (RF s d (by omega) i1 i2) ?_;rintro ex o n⟨rfl,e1,e2⟩;exact f (by decide) o n e1 e2
 .have b:(iX A 0 3&&(hasB t.nr t.r X||hasB t.nw t.wr X))=q:=x;rw[aA,Bool.or_eq_true]at b;obtain⟨A,rfl,_,B⟩:=lA b.1<|ay 0;(obtain⟨X,rfl,S⟩:∃k:Nat,X=k/\k<100:=by rcases b.2 with h|h;(.exact vK h k1);.exact vK h k2);refine Qc y λD s=>iM (br2 s d (by omega) S i1 i2) ?_;rintro ex o n⟨rfl,e1,e2⟩;exact f (by decide) o n e1 e2
 .have b:(hasB t.nw t.wr A&&iX X 0 3)=q:=x;rw[aA]at b;obtain⟨A,rfl,B⟩:=vK b.1 k2;obtain⟨X,rfl,_,S⟩:=lA b.2<|ay 0;refine XD y λD s=>iM (br3 s d B (by omega) aw i1 i2) ?_;rintro ex o n⟨rfl,e1,e2⟩;exact f (by decide) o n e1<|e2.congr λk _=>afE _ _ _ _ _
 .have b:=x;obtain⟨A,rfl,B⟩:=vK b k2;refine Zp y λD s=>iM (TZ s d B aw i1) ?_;rintro ex o n⟨rfl,e1,e2⟩;exact f (by decide) o n e1<|e2.congr λk _=>RN _ _ _ _
 .have b:(iX A 0 3&&iX X 0 (t.ng-1))=q:=x;rw[aA]at b;obtain⟨A,rfl,_,B⟩:=lA b.1<|ay 0;obtain⟨X,rfl,_,S⟩:=lA b.2<|ay 0;(have u:X<t.ng:=by omega);obtain⟨lo,hi,q1,q2,q3,q4⟩:=TO.range u;obtain⟨ag,ad,K,aS,P⟩:=hT.g;obtain⟨gb,go,rfl,v,e⟩:=P (by omega);(have g0:w2.cell? ⟨gb,go+X*2,E⟩=l (J H (lo:Nat)):=by rw[d.tT.cell v,e _<|by omega,aG,q1]);(have g1:w2.cell? ⟨gb,go+X*2+1,E⟩=l (J H (hi:Nat)):=by rw[d.tT.cell v,aM,e _<|by omega,aG,q2]);refine sw5 y λD s=>iM (Uv s d (by omega) u q3 q4 K g0 g1 i1 i2) ?_;rintro ex o n⟨rfl,e1,e2⟩;(have R:qI t (X:Int)=lo:=by simp[qI,q1]);(have N:tj t (X:Int)=hi:=by simp[tj,q2]);refine f (by decide) o n e1 ?_;rw[IG]at e2;(have:upd m.r A (lQ m.hs m.vl lo<|hi+1-lo)=upd m.r A (lQ m.hs m.vl (qI t (X:Int))<|tj t (X:Int)+1-qI t (X:Int)):=by rw[R,N]);rw[this]at e2;exact e2
 .have b:(iX A 0 3&&iX X 0 (t.ng-1))=q:=x;rw[aA]at b;obtain⟨A,rfl,_,B⟩:=lA b.1<|ay 0;obtain⟨X,rfl,_,S⟩:=lA b.2<|ay 0;(have u:X<t.ng:=by omega);obtain⟨lo,hi,q1,q2,q3,q4⟩:=TO.range u;obtain⟨ag,ad,K,aS,P⟩:=hT.g;obtain⟨gb,go,rfl,v,e⟩:=P (by omega);(have g0:w2.cell? ⟨gb,go+X*2,E⟩=l (J H (lo:Nat)):=by rw[d.tT.cell v,e _<|by omega,aG,q1]);(have g1:w2.cell? ⟨gb,go+X*2+1,E⟩=l (J H (hi:Nat)):=by rw[d.tT.cell v,aM,e _<|by omega,aG,q2]);refine SZ y λD s=>iM (br6 s d (by omega) u q3 q4 K g0 g1 i1 i2) ?_;rintro ex o n⟨rfl,e1,e2⟩;(have R:qI t (X:Int)=lo:=by simp[qI,q1]);(have N:tj t (X:Int)=hi:=by simp[tj,q2]);refine f (by decide) o n e1 ?_;(have:upd m.r A ((mY m.hs lo<|hi+1-lo:Nat):Int)=upd m.r A ((mY m.hs (qI t (X:Int))<|tj t (X:Int)+1-qI t (X:Int):Nat):Int):=by rw[R,N]);rw[this]at e2;exact e2
 .have b:(iX A 0 3&&iX X 0 3&&iX C 0 3)=q:=x;rw[aA,aA]at b;obtain⟨A,rfl,_,B⟩:=lA b.1.1<|ay 0;obtain⟨X,rfl,_,S⟩:=lA b.1.2<|ay 0;obtain⟨C,rfl,_,hC⟩:=lA b.2<|ay 0;refine sw7 y λD s=>iM (Ti s d (by omega) (by omega) (by omega) i1 i2 i3) ?_;rintro ex o n⟨rfl,e1,e2⟩;exact f (by decide) o n e1 e2
 .have b:(iX A 0 3&&iX X 0 3&&iX C 0 3)=q:=x;rw[aA,aA]at b;obtain⟨A,rfl,_,B⟩:=lA b.1.1<|ay 0;obtain⟨X,rfl,_,S⟩:=lA b.1.2<|ay 0;obtain⟨C,rfl,_,hC⟩:=lA b.2<|ay 0;refine WC y λD s=>iM (Vx s d (by omega) (by omega) (by omega) i1 i2 i3) ?_;rintro ex o n⟨rfl,e1,e2⟩;exact f (by decide) o n e1 e2
 .have b:(iX A 0 3&&iX X 0 3&&iX C (m.nx+1) t.nc)=q:=x;rw[aA,aA]at b;obtain⟨A,rfl,_,B⟩:=lA b.1.1<|ay 0;obtain⟨X,rfl,_,S⟩:=lA b.1.2<|ay 0;obtain⟨C,rfl,_,hC⟩:=lA b.2 (by omega);refine Qq y λD s=>iM (Yz s d (by omega) (by omega) (by omega) i1 i2 i3) ?_;rintro ex o n⟨rfl,e1,e2⟩;exact f (by decide) o n e1 e2
 .refine PX y λD s=>iM (P9 s d) ?_;rintro ex o n⟨rfl,e1,w3,e3,e4⟩;exact aB rfl o n ⟨e1,w2,w3,d,e3,e4⟩
end
def KD{tmps:Array U}{w:V}{rs:List U}{b:Bool}(g:tmps.getD 4 z=F (l ⟨y,0,E⟩))(e5:tmps.getD 5 z=F (l ⟨f,0,E⟩))(e6:tmps.getD 6 z=Z b)(d:w.rangeAt y 0 X)(e:w.rangeAt f 0 rs)(c:X.length=200)(a:rs.length=4):(results aW tmps).run W w=.ok (aN #[M X.toArray,M rs.toArray,Z b]) w:=by have h:=run_loadVar_mid w y 0 61 X _ d bn rfl (by rw[c];exact wQ);have i:=run_loadVar_mid w f 0 73 rs _ e bF rfl (by rw[a];exact zz);unfold results;rw[Tryz.results35];rw[Array.mapM_eq_mapM_toList];simp only[List.mapM_cons,List.mapM_nil,g,e5,e6,bind_assoc,pure_bind,map_eq_pure_bind,Sem.run_bind,Sem.run_pure,h];have j:(asAddr<|F<|l ⟨y,0,E⟩).run W w=.ok ⟨y,0,E⟩ w:=rfl;have k:(asAddr<|F<|l ⟨f,0,E⟩).run W w=.ok ⟨f,0,E⟩ w:=rfl;simp_all
def Qs{t:iP}(d:pk t){m:jc}(a:m.nx<t.nc)(hk:t.c (4*m.nx)≠10):(lV t m).ab=m.ab:=by obtain⟨kk,b,e,f⟩:=d.kind a;unfold lV qO;grind
def adK{t:iP}{m:jc}(hk:t.c (4*m.nx)=10):lV t m={m with ab:=q,ch:=[],nx:=t.nc}:=by unfold lV qO;rw[hk];rfl
def Pd{t:iP}{m:jc}(h:¬m.nx<t.nc):∀f,runM t f m=m|0=>rfl|f+1=>by unfold runM;rw[if_neg h]
def Ao{b:Nat}(d:o.heap.size<=b):∀(a:List U)(c:Nat)(w:V),Below o.heap.size o w->Below o.heap.size o (w.setCells b c a)|[],_,_,h=>h|v::a,c,w,h=>Ao d a (c+1) _ (h.setCell d v)
def DZ{b n:Nat}:∀(a:List U)(o:Nat)(w:V)(c:Nat->U),iJ w b y n c->iJ (w.setCells b o a) b y n (λj=>if o<=j/\j<o+a.length then lc a (j-o)else c j)|[],o,w,c,h=>h.congr λj _=>by grind|v::a,o,w,c,h=>by refine(DZ a (o+1) _ _<|h.setCell o v).congr λj _=>?_;by_cases d:o+1<=j/\j<o+1+a.length;(.rw[if_pos d,if_pos<|by simp;omega];unfold lc;grind);.rw[if_neg d];by_cases e:j=o;(.subst e;rw[if_pos rfl,if_pos<|by simp];simp[lc]);grind
noncomputable section
variable{w0 w:V}{T C0 RC RR Dd Rg:Nat}{va vb vc vd:U}{hs0:Nat->Bool}{v0:Nat->Int}{hs:Nat->Bool}{v r:Nat->Int}
def N9(b:kY w0 w T C0 RC RR Dd Rg va vb vc vd hs0 v0 hs v r)(d:o.heap=w.heap/\Below w.heap.size w o)(a:List U)(g:a.length=200):((o.setCells RC 0 a).setCells RR 0<|jT r).rangeAt RC 0 a/\((o.setCells RC 0 a).setCells RR 0<|jT r).rangeAt RR 0 (jT r)/\Below w0.heap.size w0 ((o.setCells RC 0 a).setCells RR 0<|jT r):=by have h:=b.ord;obtain⟨c1,f⟩:=(b.below d.2).yh;obtain⟨c2,c⟩:=(b.below d.2).yy;have r1:=bG o RC 0 a (by rw[g];exact xr f);have e:=World.rangeAt_setCells_apart r1 RR 0 (jT r)<|.inl (by omega);have t2:=Jg (vs:=a) (xr c) (show RR≠RC by omega);have r2:=bG (o.setCells RC 0 a) RR 0 (jT r) t2;exact⟨e,r2,Ao (by omega) _ _ _<|Ao (by omega) _ _ _ (b.below d.2).tT⟩
end
def Rs{t:iP}(TO:pk t)(va vb vc vd:U)(w:V)(hT:lE w va vb vc vd t)(hs:Nat->Bool)(vl:Nat->Int)(hv:∀k,hs k=q->ji (vl k)):Calls W 35 #[M #[va,vb,vc,vd],M (kG hs<|valOf hs vl).toArray] w λe N=>e=.returned (aN #[M (kG (pj t (hs,vl)).1<|valOf (pj t (hs,vl)).1 (pj t (hs,vl)).2).toArray,M (jT (na t (hs,vl)).r).toArray,Z (na t (hs,vl)).ab])/\Below w.heap.size w N:=by
 refine calls_of_wp Tryz.func35 UC ?_;rw[aba,aaA];refine wp_seq<|iM (Ri w va vb vc vd<|kG hs<|valOf hs vl) ?_;rintro ex a w1⟨rfl,⟨s1,s2,s3,s4,s5,s6,s7⟩,s⟩;have b:=tI hs<|valOf hs vl;have q0:iJ w1 w.heap.size 91 4<|lc [va,vb,vc,vd]:=by rw[s];exact(((km w [va,vb,vc,vd] 91).alloc _).alloc _).alloc _
 have q1:iJ w1 (w.heap.size+1) 61 200<|lc<|kG hs<|valOf hs vl:=by rw[s];have h:=km (w.alloc<|ai #[va,vb,vc,vd] 91) (kG hs<|valOf hs vl) 61;rw[bq,b]at h;exact(h.alloc _).alloc _
 have q2:iJ w1 (w.heap.size+1+1) 61 200<|lc Tryz.zeroCells61.toList:=by rw[s];have h:=km ((w.alloc<|ai #[va,vb,vc,vd] 91).alloc<|ai (kG hs<|valOf hs vl).toArray 61) Tryz.zeroCells61.toList 61;rw[bq,bq,bd,bg,FV]at h;exact h.alloc _
 have q3:iJ w1 (w.heap.size+1+1+1) 73 4<|lc [J H 0,J H 0,J H 0,J H 0]:=by rw[s];have h:=km (((w.alloc<|ai #[va,vb,vc,vd] 91).alloc<|ai (kG hs<|valOf hs vl).toArray 61).alloc<|ai bH 61) [J H 0,J H 0,J H 0,J H 0] 73;simp_all
 have qb:Below w.heap.size w w1:=by rw[s];exact((((aQ _ _).alloc (aF _) _).alloc (by simp) _).alloc (by simp;omega) _).alloc (by simp;omega) _
 have qz:w1.heap.size=w.heap.size+1+1+1+1:=by simp_all
 obtain⟨g,rfl,hg⟩:=nA a s1 s2;rw[hg]at s3 s4 s5 s6 s7;refine wp_seq ?_;rw[s4];refine iM (XM (w.heap.size+1) w1 g (kG hs<|valOf hs vl) b (all_oneCell_toArray<|CC _ _)<|yY q1 b) ?_;rintro ex a1 A⟨rfl,⟨r1,r2,r3,r4,r5,r6,r7,r8⟩,C⟩;have I:=km w1 Tryz.zeroCells61.toList 61;rw[bd,bg,FV]at I;have av:=DZ (kG hs<|valOf hs vl) 0 _ _ I;have p4:iJ A w1.heap.size 61 200<|lc<|kG hs<|valOf hs vl:=by rw[C];exact av.congr λj hj=>by grind
 have d:∀x,x<w1.heap.size->A.heap[x]?=w1.heap[x]?:=λx hx=>by rw[C,A9 _ _ _<|by omega,bu _ _ _ hx]
 have aO:=p4.lt;have B:Below w.heap.size w A:=by rw[C];exact Ao (by omega) _ _ _<|qb.alloc (by omega) _
 obtain⟨g',rfl,am⟩:=nA a1 r1 r2;rw[am]at r3 r4 r5 r6 r7 r8;refine wp_seq ?_;refine iM (T9 w1.heap.size A g' r8) ?_;rintro ex a2 w3⟨rfl,⟨x1,x2,x3,x4,x5,x6,x7,x8,x9⟩,aw⟩;have hW:kY w w3 w.heap.size (w.heap.size+1) (w.heap.size+1+1) (w.heap.size+1+1+1) w1.heap.size A.heap.size va vb vc vd hs (valOf hs vl) hs (valOf hs vl) λ_=>0:=by rw[aw];refine⟨B.alloc B.size _,by omega,(q0.block<|d _<|by omega).alloc _,(q1.block<|d _<|by omega).alloc _,⟨_,(q2.block<|d _<|by omega).alloc _⟩,⟨_,(q3.block<|d _<|by omega).alloc _⟩,p4.alloc _,?_⟩;exact km A [J H 0,J H 0,J H 0,J H 0] 73
 obtain⟨g2,rfl,Y⟩:=nA a2 x1 x2;refine wp_seq<|wp_seq ?_;refine iM (XK w3 g2) ?_;rintro ex a3 w4⟨rfl,⟨y1,y2,y3,y4,y5,y6,y7,y8,y9,aB⟩,Q⟩;rw[Q];have hA:jR w.heap.size (w.heap.size+1) (w.heap.size+1+1) (w.heap.size+1+1+1) w1.heap.size A.heap.size 0 a3:=by rw[<-Y]at y3 y4 y5 y6 y7 y8 y9;exact⟨y1,y2,by grind,by grind,by grind,by grind,by grind,by grind,by rw[y9];exact x9,aB⟩
 generalize w1.heap.size=Dd at*;generalize A.heap.size=Rg at*;generalize w.heap.size+1+1+1=RR at*;generalize w.heap.size+1+1=RC at*;generalize w.heap.size+1=C0 at*;show(aU 0<|aY bL).wp _ _ a3 w3;refine wp_block<|wp_loop (λa N=>∃m f,py t m/\m.ab=au/\t.nc<=f+m.nx/\runM t f m=na t (hs,vl)/\jR w.heap.size C0 RC RR Dd Rg m.nx a/\kY w N w.heap.size C0 RC RR Dd Rg va vb vc vd hs (valOf hs vl) m.hs (valOf m.hs m.vl) m.r) (λa _=>t.nc-(intOf<|a.tmps.getD 9 z).toNat) ⟨⟨au,λ_=>0,[],hs,vl,0⟩,t.nc,⟨λi _=>WalkArith.wf_i64 (n:=0)<|by omega,hv,bh _,aF _,λc hc=>by cases hc⟩,rfl,aF _,rfl,hA,hW⟩ ?_;rintro a4 w5⟨m,f,hm,D,hf,u,h1,y⟩;by_cases p:m.nx<t.nc;.obtain⟨G,rfl⟩:∃G,f=G+1:=⟨f-1,by omega⟩;(have ad:runM t (G+1) m=runM t G (lV t m):=by show(if m.nx<t.nc then _ else _)=_;rw[if_pos p]);obtain⟨al,aL⟩:=hm.step TO p;refine XE TO hT p h1 y ?_ ?_;(.intro hk a' N e1 e2;refine⟨⟨lV t m,G,al,by rw[Qs TO p hk];exact D,by omega,by grind,e1,e2⟩,?_⟩;rw[e1.2.2.2.2.2.2.2.2.2,h1.2.2.2.2.2.2.2.2.2];simp only[intOf];omega);.rintro hk a' N⟨⟨d1,d2,d3,d4⟩,wa,wb,eW,X,rfl⟩;(have K:na t (hs,vl)={m with ab:=q,ch:=[],nx:=t.nc}:=by rw[<-u,ad,adK hk];exact Pd (by simp) G);obtain⟨z1,z2,z3⟩:=N9 eW X (kG hs<|valOf hs vl) b;(have hS:pj t (hs,vl)=(hs,vl):=by unfold pj;rw[K];rfl);refine⟨d1,_,KD d2 d3 d4 z1 z2 b rfl,?_,z3⟩;rw[hS,K]
 .obtain⟨ac,P,R,_,_⟩:=hT.c;(have t3:w5.cell? ⟨w.heap.size,3,E⟩=l (O ac t.nc P):=by rw[y.rT.cell<|by omega,<-R];rfl);rw[OH];refine wp_seq<|iM (aaW h1 t3 p) ?_;rintro ex a5 w6⟨rfl,h5,S⟩;rw[S];show bZ.wp _ _ _ _;have o:=y.ord;obtain⟨c1,ap⟩:=y.yh;obtain⟨c2,aa⟩:=y.yy;(have K:na t (hs,vl)=m:=by rw[<-u];exact Pd p f);(have hS:pj t (hs,vl)=(m.hs,m.vl):=by unfold pj;rw[K,D];rfl);obtain⟨e1,e2,e3,e4,e5,e6,e7,e8,e9,aC⟩:=h5;rw[Zy];refine wp_seq<|iM (Uq w5 a5 Dd RC RR Rg (kG m.hs<|valOf m.hs m.vl) (jT m.r) (tI _ _) rfl (all_oneCell_toArray<|CC _ _) (by simp[jT,aX]) e1 e2 e8 e9 e5 e6 (yY y.rD<|tI _ _) (yY y.rG rfl) (xr ap) (xr aa) (by omega) (by omega) (by omega) (by omega)<|by omega) ?_;rintro ex a6 w7⟨rfl,⟨d1,d2,d3,d4⟩,wb,X,rfl⟩;obtain⟨z1,z2,z3⟩:=N9 y X (kG m.hs<|valOf m.hs m.vl)<|tI _ _;refine wp_ret ⟨d1,_,KD d2 d3 d4 z1 z2 (tI _ _) rfl,?_,z3⟩;rw[hS,K,D]
def nP:aj:=Tryz.f14.body.getD .skip
def VY:Tryz.f14.body=l nP:=rfl
def H7:aj:=iA nP
def te:aj:=iA<|iy nP
def lP:aj:=iy<|iy nP
def zo:aj:=iA lP
def BA:aj:=iA<|iy lP
def zJ:aj:=iA<|iy<|iy lP
def DU:aj:=iA<|iy<|iy<|iy lP
def EH:aj:=iA<|iA<|iy<|iy<|iy<|iy lP
def uo:aj:=ja<|iL<|iy<|iA<|iy<|iy<|iy<|iy lP
def Dv:aj:=iA<|iA<|iy<|iy<|iy<|iy<|iy lP
def sk:aj:=ja<|iL<|iy<|iA<|iy<|iy<|iy<|iy<|iy lP
def EE:aj:=iy<|iy<|iy<|iy<|iy<|iy lP
def PV:nP=ar H7 (ar te lP):=by kernel_rfl
def Mf:lP=ar zo (ar BA<|ar zJ<|ar DU<|ar (ar EH<|aU 0<|aY uo)<|ar (ar Dv<|aU 2<|aY sk) EE):=by kernel_rfl
def OG:Go.Rel.mD W (mZ rh) lP=q:=by kernel_rfl
def X7(a:U):(#[a]++bI (Tryz.f14.ntmps-(#[a]:Array U).size) z)=#[a,z,z,z,z,z,z,z,z,z,z,z,z,z,z,z,z,z,z,z,z,z,z,z,z,z,z,z,z,z,z,z,z,z,z,z,z,z,z,z,z,z,z,z,z,z,z,z,z,z,z,z,z,z,z,z,z,z,z,z,z,z,z,z,z,z,z,z,z,z,z,z,z,z,z,z,z,z,z,z,z,z,z,z,z,z,z,z,z,z,z,z,z,z,z,z,z,z,z,z,z,z,z,z,z,z,z,z,z,z,z,z,z,z,z,z,z,z,z,z,z,z,z,z,z,z,z,z,z,z,z,z,z,z,z,z,z,z,z,z,z,z,z,z,z,z,z,z,z,z,z,z]:=by kernel_rfl
def pU(a:Act)(hs:a.tmps.size=152)(hd:a.defers=[]):∃g:Nat->U,a=⟨#[g 0,g 1,g 2,g 3,g 4,g 5,g 6,g 7,g 8,g 9,g 10,g 11,g 12,g 13,g 14,g 15,g 16,g 17,g 18,g 19,g 20,g 21,g 22,g 23,g 24,g 25,g 26,g 27,g 28,g 29,g 30,g 31,g 32,g 33,g 34,g 35,g 36,g 37,g 38,g 39,g 40,g 41,g 42,g 43,g 44,g 45,g 46,g 47,g 48,g 49,g 50,g 51,g 52,g 53,g 54,g 55,g 56,g 57,g 58,g 59,g 60,g 61,g 62,g 63,g 64,g 65,g 66,g 67,g 68,g 69,g 70,g 71,g 72,g 73,g 74,g 75,g 76,g 77,g 78,g 79,g 80,g 81,g 82,g 83,g 84,g 85,g 86,g 87,g 88,g 89,g 90,g 91,g 92,g 93,g 94,g 95,g 96,g 97,g 98,g 99,g 100,g 101,g 102,g 103,g 104,g 105,g 106,g 107,g 108,g 109,g 110,g 111,g 112,g 113,g 114,g 115,g 116,g 117,g 118,g 119,g 120,g 121,g 122,g 123,g 124,g 125,g 126,g 127,g 128,g 129,g 130,g 131,g 132,g 133,g 134,g 135,g 136,g 137,g 138,g 139,g 140,g 141,g 142,g 143,g 144,g 145,g 146,g 147,g 148,g 149,g 150,g 151],[]⟩/\∀k,a.tmps.getD k z=g k:=by obtain⟨T,d⟩:=a;simp only at hs hd;subst hd;obtain⟨g,b,c⟩:=GO hs;exact⟨g,by rw[b];rfl,c⟩
noncomputable section
variable(w:V)(N e cd:Nat)(g:Nat->U)(vB vL vS:U)(a b c:Int)
def aeR:H7.wp W (λex s d=>ex=ae/\(s.tmps.size=152/\s.defers=[]/\s.tmps.getD 1 z=F (l ⟨w.heap.size,0,E⟩))/\d=w.alloc (ai #[vB,J H a,J H b,J H c,vL,vS] 42)) ⟨#[M #[vB,J H a,J H b,J H c,vL,vS],z,z,z,z,z,z,z,z,z,z,z,z,z,z,z,z,z,z,z,z,z,z,z,z,z,z,z,z,z,z,z,z,z,z,z,z,z,z,z,z,z,z,z,z,z,z,z,z,z,z,z,z,z,z,z,z,z,z,z,z,z,z,z,z,z,z,z,z,z,z,z,z,z,z,z,z,z,z,z,z,z,z,z,z,z,z,z,z,z,z,z,z,z,z,z,z,z,z,z,z,z,z,z,z,z,z,z,z,z,z,z,z,z,z,z,z,z,z,z,z,z,z,z,z,z,z,z,z,z,z,z,z,z,z,z,z,z,z,z,z,z,z,z,z,z,z,z,z,z,z,z],[]⟩ w:=by simp only[H7,nP,ak,ah,iA,iy];go_wp2
def tS(w:V)(N:Nat)(vB vL vS:U)(a b c:Int):Prop:=iJ w N 42 6<|lc [vB,J H a,J H b,J H c,vL,vS]
def aag{nb:Nat}{fb:Nat->Int}{nl:Nat}{ts:Nat->iP}{fs:Nat->Int}(d:tS w N vB vL vS a b c)(n:iQ w vB 1 nb fb)(m:lI w vL nl ts)(p:iQ w vS 2 y fs)(i:∀j,j<y->(Lit.int H<|fs<|2*j+1).wf=q)(A:lh nb fb a b c=q)(D:logAt nl ts=E)(hs:nZ y fs=E):zo.wp W (λex s o=>ex=ae/\(s.tmps.size=152/\s.defers=[]/\s.tmps.getD 1 z=F (l ⟨N,0,E⟩)/\s.tmps.getD 4 z=Z q)/\(∃e f h K R k,s.tmps.getD 5 z=F (l ⟨e,0,E⟩)/\s.tmps.getD 6 z=J H 0/\sw w.heap.size o e ⟨nb,fb,nl,ts⟩ a b c f h K R k y fs)/\Below w.heap.size w o) ⟨fr 152<|upd (upd g 1<|F<|l ⟨N,0,E⟩) 4<|Z q,[]⟩ w:=by simp only[fr,upd,aD,aH,aI,aJ,aK,reduceIte];have B:w.cell? ⟨N,0,E⟩=l vB:=d.cell (j:=0) (by simp);have C:w.cell? ⟨N,1,E⟩=l (J H a):=d.cell (j:=1) (by simp);have u:w.cell? ⟨N,2,E⟩=l (J H b):=d.cell (j:=2) (by simp);have G:w.cell? ⟨N,3,E⟩=l (J H c):=d.cell (j:=3) (by simp);have x:w.cell? ⟨N,4,E⟩=l vL:=d.cell (j:=4) (by simp);have v:w.cell? ⟨N,5,E⟩=l vS:=d.cell (j:=5) (by simp);clear d;simp only[zo,lP,nP,ak,ah,iA,iy];go_wp2_with fail;refine(NV vB vL vS a b c nb fb nl ts y fs w n m p i A D hs).mono ?_;rintro r P⟨e,f,h,K,R,k,rfl,t,I⟩;clear n m p B C u G x v;go_wp2_with fail;exact⟨f,h,K,R,k,t⟩
def aaL{nb:Nat}{fb:Nat->Int}{nl:Nat}{ts:Nat->iP}{fs:Nat->Int}(d:tS w N vB vL vS a b c)(m:iQ w vB 1 nb fb)(k:lI w vL nl ts)(i:iQ w vS 2 y fs)(h:newAt nb fb a b c nl ts y fs≠(0,0)):zo.wp W (λex s t=>ex=ae/\(s.tmps.size=152/\s.defers=[]/\s.tmps.getD 1 z=F (l ⟨N,0,E⟩)/\s.tmps.getD 4 z=Z q)/\(s.tmps.getD 5 z=F E/\s.tmps.getD 6 z=J H ((newAt nb fb a b c nl ts y fs).1:Nat))/\Below w.heap.size w t) ⟨fr 152<|upd (upd g 1<|F<|l ⟨N,0,E⟩) 4<|Z q,[]⟩ w:=by simp only[fr,upd,aD,aH,aI,aJ,aK,reduceIte];have p:w.cell? ⟨N,0,E⟩=l vB:=d.cell (j:=0) (by simp);have o:w.cell? ⟨N,1,E⟩=l (J H a):=d.cell (j:=1) (by simp);have x:w.cell? ⟨N,2,E⟩=l (J H b):=d.cell (j:=2) (by simp);have v:w.cell? ⟨N,3,E⟩=l (J H c):=d.cell (j:=3) (by simp);have n:w.cell? ⟨N,4,E⟩=l vL:=d.cell (j:=4) (by simp);have u:w.cell? ⟨N,5,E⟩=l vS:=d.cell (j:=5) (by simp);clear d;have f:=Vv vB vL vS a b c nb fb nl ts y fs w m k i h;generalize newAt nb fb a b c nl ts y fs=A at*;obtain⟨q1,q2⟩:=A;simp only at f;simp only[zo,lP,nP,ak,ah,iA,iy];go_wp2_with fail;refine f.mono ?_;rintro r C⟨rfl,B⟩;clear m k i p o x v n u f;go_wp2_with fail
def Pu(n k:U){nb:Nat}{fb:Nat->Int}{nl:Nat}{ts:Nat->iP}{fs:Nat->Int}(d:tS w N vB vL vS a b c)(i:iQ w vB 1 nb fb)(f:lI w vL nl ts)(m:iQ w vS 2 y fs):BA.wp W (λex s u=>ex=ae/\(s.tmps.size=152/\s.defers=[]/\s.tmps.getD 1 z=F (l ⟨N,0,E⟩)/\s.tmps.getD 4 z=Z q/\s.tmps.getD 5 z=n/\s.tmps.getD 6 z=k/\s.tmps.getD 8 z=Z (mu nb fb a b c nl ts y fs))/\Below w.heap.size w u) ⟨fr 152<|upd (upd (upd (upd g 1<|F<|l ⟨N,0,E⟩) 4<|Z q) 5 n) 6 k,[]⟩ w:=by simp only[fr,upd,aD,aH,aI,aJ,aK,reduceIte];have x:w.cell? ⟨N,0,E⟩=l vB:=d.cell (j:=0) (by simp);have p:w.cell? ⟨N,1,E⟩=l (J H a):=d.cell (j:=1) (by simp);have A:w.cell? ⟨N,2,E⟩=l (J H b):=d.cell (j:=2) (by simp);have t:w.cell? ⟨N,3,E⟩=l (J H c):=d.cell (j:=3) (by simp);have o:w.cell? ⟨N,4,E⟩=l vL:=d.cell (j:=4) (by simp);have v:w.cell? ⟨N,5,E⟩=l vS:=d.cell (j:=5) (by simp);clear d;have h:=P5 vB vL vS nb fb a b c nl ts y fs w i f m;generalize mu nb fb a b c nl ts y fs=D at*;simp only[BA,lP,nP,ak,ah,iA,iy];go_wp2_with fail;refine h.mono ?_;rintro r C⟨rfl,B⟩;clear i f m x p A t o v h;go_wp2_with fail
def VO:zJ.wp W (λex s d=>ex=ae/\(s.tmps.size=152/\s.defers=[]/\s.tmps.getD 1 z=F (l ⟨N,0,E⟩)/\s.tmps.getD 5 z=F (l ⟨e,0,E⟩))/\d=w) ⟨fr 152<|upd (upd (upd (upd (upd g 1<|F<|l ⟨N,0,E⟩) 4<|Z q) 5<|F<|l ⟨e,0,E⟩) 6<|J H 0) 8<|Z q,[]⟩ w:=by simp only[fr,upd,aD,aH,aI,aJ,aK,reduceIte];simp only[zJ,lP,nP,ak,ah,iA,iy];go_wp2
def agp(f:0<cd)(d:cd<=3):zJ.wp W (λex s h=>ex=.ret/\(s.defers=[]/\s.tmps.getD 2 z=F E/\s.tmps.getD 3 z=Z q)/\h=w) ⟨fr 152<|upd (upd (upd (upd (upd g 1<|F<|l ⟨N,0,E⟩) 4<|Z q) 5<|F E) 6<|J H (cd:Nat)) 8<|Z au,[]⟩ w:=by
 simp only[fr,upd,aD,aH,aI,aJ,aK,reduceIte];have:cd=1\/cd=2\/cd=3:=by omega
 simp only[zJ,lP,nP,ak,ah,iA,iy];rcases this with rfl|rfl|rfl<;>go_wp2
end
def xF(e:Nat)(g f h:U)(a b c:Int)(d:Nat):Array U:=(((((((Tryz.zeroCells65.setIfInBounds 0<|F<|l ⟨e,0,E⟩).setIfInBounds 1 g).setIfInBounds 2<|J H a).setIfInBounds 3<|J H b).setIfInBounds 4<|J H c).setIfInBounds 5 f).setIfInBounds 6 h).setIfInBounds 7<|J H (d:Nat)
def kZ(e:Nat)(g f h:U)(a b c:Int)(i:Nat)(hs:Nat->Bool)(v:Nat->Int)(d k:U)(j:Nat):U:=if j<8 then lc [F<|l ⟨e,0,E⟩,g,J H a,J H b,J H c,f,h,J H (i:Nat)] j else if j<208 then lc (kG hs v) (j-8)else if j=208 then d else k
def Nf:Nat->U->Bool|j,Z x=>decide (8<=j/\j<108)&&!x|j,J H n=>decide (108<=j/\j<208)&&n==0|j,O E 0 0=>decide (208<=j)|j,_=>decide (j<8)
def DQ:Tryz.zeroCells65.size=210/\((aD 210).all λj=>decide (j<8)||Nf j (Tryz.zeroCells65.getD j bw))=q:=⟨by kernel_rfl,by kernel_rfl⟩
def aej(e:8<=j)(c:j<210):bz[j]?=l (if j<108 then Z au else if j<208 then J H 0 else O E 0 0):=by
 have a:=bJ.1 DQ.2 j (by simpa using c);have b:=DQ.1;rw[decide_eq_false<|by omega,Bool.false_or]at a;have d:bz[j]?=l (Tryz.zeroCells65.getD j bw):=by rw[Array.getD_eq_getD_getElem?,Array.getElem?_eq_getElem<|by omega];rfl
 rw[d];generalize Tryz.zeroCells65.getD j bw=u at*;unfold Nf at a;split at a;.simp only[aA,decide_eq_true_eq,Bool.not_eq_true']at a;rw[if_pos<|by omega,a.2]
 .simp only[aA,decide_eq_true_eq,beq_iff_eq]at a;rw[if_neg<|by omega,if_pos<|by omega,a.2]
 .simp only[decide_eq_true_eq]at a;rw[if_neg<|by omega,if_neg<|by omega]
 .simp only[decide_eq_true_eq]at a;omega
def aet(w:V)(e:Nat)(i g d:U)(a b c:Int)(f:Nat):iJ (w.alloc<|ai (xF e i g d a b c f) 65) w.heap.size 65 210<|kZ e i g d a b c f (λ_=>au) (λ_=>0) (O E 0 0)<|O E 0 0:=by
 have m:(xF e i g d a b c f).size=210:=by unfold xF;simp only[Array.size_setIfInBounds];exact DQ.1
 have h:=km w (xF e i g d a b c f).toList 65;rw[bd,bg,m]at h;refine h.congr λj r=>?_;unfold lc kZ;rw[bK,Array.getElem?_toList];by_cases o:j<8;.rw[if_pos o];(have:j=0\/j=1\/j=2\/j=3\/j=4\/j=5\/j=6\/j=7:=by omega);have p:=DQ.1;rcases this with rfl|rfl|rfl|rfl|rfl|rfl|rfl|rfl<;>simp[xF,bM,p,lc]
 .rw[if_neg o];(have:(xF e i g d a b c f)[j]?=bz[j]?:=by unfold xF;simp only[bM];rw[if_neg<|by omega,if_neg<|by omega,if_neg<|by omega,if_neg<|by omega,if_neg<|by omega,if_neg<|by omega,if_neg<|by omega,if_neg<|by omega]);rw[this,aej (by omega) r];by_cases n:j<108;(.rw[if_pos n,if_pos<|by omega,sU _ _<|by omega];rfl);.rw[if_neg n];by_cases k:j<208;(.rw[if_pos k,if_pos k];(have:j-8=100+(j-108):=by omega);rw[this,rX _ _<|by omega];rfl);.rw[if_neg k,if_neg k];split<;>rfl
noncomputable section
variable(w:V)(N e cd:Nat)(g:Nat->U)(vL vS:U)(a b c:Int)
def WV(h:Option ax)(nb d:Nat)(k:nb<=3)(f:tS w N (O h nb d) vL vS a b c):DU.wp W (λex s i=>ex=ae/\(s.tmps.size=152/\s.defers=[]/\s.tmps.getD 1 z=F (l ⟨N,0,E⟩)/\s.tmps.getD 9 z=F (l ⟨w.heap.size,0,E⟩))/\i=w.alloc (ai (xF e (O h nb d) vL vS a b c<|nb+1) 65)) ⟨fr 152<|upd (upd g 1<|F<|l ⟨N,0,E⟩) 5<|F<|l ⟨e,0,E⟩,[]⟩ w:=by simp only[fr,upd,aD,aH,aI,aJ,aK,reduceIte];have n:w.cell? ⟨N,0,E⟩=l (O h nb d):=f.cell (j:=0) (by simp);have r:w.cell? ⟨N,1,E⟩=l (J H a):=f.cell (j:=1) (by simp);have o:w.cell? ⟨N,2,E⟩=l (J H b):=f.cell (j:=2) (by simp);have p:w.cell? ⟨N,3,E⟩=l (J H c):=f.cell (j:=3) (by simp);have t:w.cell? ⟨N,4,E⟩=l vL:=f.cell (j:=4) (by simp);have m:w.cell? ⟨N,5,E⟩=l vS:=f.cell (j:=5) (by simp);clear f;simp only[DU,lP,nP,ak,ah,iA,iy];go_wp2_with fail;rfl
end
def kj(N G:Nat)(s:Act):Prop:=s.tmps.size=152/\s.defers=[]/\s.tmps.getD 1 z=F (l ⟨N,0,E⟩)/\s.tmps.getD 9 z=F (l ⟨G,0,E⟩)
def Dj:aj:=iA uo
def BR:aj:=iA<|iL<|iA<|iy uo
def BZ:aj:=iy<|iL<|iA<|iy uo
def Il:aj:=iy<|iy uo
def ND:uo=ar Dj (ar (aU 1<|ar BR BZ) Il):=by kernel_rfl
def Z4:BR=bj 10 (jV BR) q:=by kernel_rfl
def afJ:BZ=bj 11 (jV BZ) q:=by kernel_rfl
noncomputable section
variable(w:V)(N G i:Nat)(g:Nat->U)
def acA:EH.wp W (λex s a=>ex=ae/\(kj N G s/\s.tmps.getD 10 z=J H ((0:Nat):Int))/\a=w) ⟨fr 152<|upd (upd g 1<|F<|l ⟨N,0,E⟩) 9<|F<|l ⟨G,0,E⟩,[]⟩ w:=by simp only[fr,upd,aD,aH,aI,aJ,aK,reduceIte];unfold kj;simp only[EH,lP,nP,ak,ah,iA,iy];go_wp2
end
def Dl:aj:=iA sk
def HZ:aj:=iA<|iL<|iA<|iy sk
def IA:aj:=iA<|iy<|iL<|iA<|iy sk
def mB:aj:=iA<|iy<|iy<|iL<|iA<|iy sk
def Jq:aj:=iy<|iy<|iy<|iL<|iA<|iy sk
def Gf:aj:=iy<|iy sk
def Kj:sk=ar Dl (ar (aU 3<|ar HZ<|ar IA<|ar mB Jq) Gf):=by kernel_rfl
noncomputable section
variable(w:V)(N G i:Nat)(g:Nat->U)
def adM:Dv.wp W (λex s a=>ex=ae/\(kj N G s/\s.tmps.getD 11 z=J H ((0:Nat):Int))/\a=w) ⟨fr 152<|upd (upd g 1<|F<|l ⟨N,0,E⟩) 9<|F<|l ⟨G,0,E⟩,[]⟩ w:=by simp only[fr,upd,aD,aH,aI,aJ,aK,reduceIte];unfold kj;simp only[Dv,lP,nP,ak,ah,iA,iy];go_wp2
def afA:EE.wp W (λex s a=>ex=.ret/\(s.defers=[]/\s.tmps.getD 2 z=F (l ⟨G,0,E⟩)/\s.tmps.getD 3 z=Z q)/\a=w) ⟨fr 152<|upd (upd g 1<|F<|l ⟨N,0,E⟩) 9<|F<|l ⟨G,0,E⟩,[]⟩ w:=by simp only[fr,upd,aD,aH,aI,aJ,aK,reduceIte];simp only[EE,lP,nP,ak,ah,iA,iy];go_wp2
end
noncomputable section
variable(ev:aE->U)(w:V)(d:Option Tmp)(ty:TypeId)(ps:String)(af:Array Edge)(g:Option<|Nat×Bool)(x x1:aE)
def aak(N:Nat)(h:ev x=F (l ⟨N,0,E⟩)):(execOp ev ⟨d,.fieldAddr 42 x 1,ty,ps,af,g⟩).run W w=.ok (az<|F<|l ⟨N,4,E⟩) w:=by simp[execOp,go_sem,h]
def afL(T o:Nat)(b:Option ax)(n p:Nat)(h:ev x=F (l ⟨T,o,E⟩))(a:w.cell? ⟨T,o,E⟩=l (O b n p)):(execOp ev ⟨d,.load 25 x,ty,ps,af,g⟩).run W w=.ok (az<|O b n p) w:=by simp[execOp,go_sem,h,a]
def Q9(b o i n p:Nat)(hi:i<n)(h:ev x=O (l ⟨b,o,E⟩) n p)(a:ev x1=J H (i:Nat)):(execOp ev ⟨d,.indexAddr 25 x x1,ty,ps,af,g⟩).run W w=.ok (az<|F<|l ⟨b,o+i*4,E⟩) w:=by
 have i2:(i)<(n):=by omega
 simp[execOp,go_sem,h,a,i2]
def YM(b o:Nat)(e a f c:U)(h:ev x=F (l ⟨b,o,E⟩))(c0:w.cell? ⟨b,o,E⟩=l e)(c1:w.cell? ⟨b,o+1,E⟩=l a)(c2:w.cell? ⟨b,o+2,E⟩=l f)(c3:w.cell? ⟨b,o+3,E⟩=l c):(execOp ev ⟨d,.load 91 x,ty,ps,af,g⟩).run W w=.ok (az<|M #[e,a,f,c]) w:=by simp[execOp,go_sem,h,c0,c1,c2,c3]
def afd(T o:Nat)(h:ev x=F (l ⟨T,o,E⟩)):(execOp ev ⟨d,.nilCheck x,ty,ps,af,g⟩).run W w=.ok (az<|F<|l ⟨T,o,E⟩) w:=by simp[execOp,go_sem,h]
def Uf(T:Nat)(h:ev x=F (l ⟨T,0,E⟩)):(execOp ev ⟨d,.fieldAddr 65 x 3,ty,ps,af,g⟩).run W w=.ok (az<|F<|l ⟨T,8,E⟩) w:=by simp[execOp,go_sem,h]
def ada(a:Act)(c b:U)(h:a.eval x=c)(e:a.eval x1=b):(execOp a.eval ⟨d,.call {callee:=.value<|.func 35,args:=#[x,x1],argTypes:=#[91,61]},ty,ps,af,g⟩).run W w=.ok (.enter 35 #[c,b]) w:=by subst h e;simp[go_sem]
def W8(a b c:U)(h:ev x=aN #[a,b,c]):(execOp ev ⟨d,.extract x 0,ty,ps,af,g⟩).run W w=.ok (az a) w:=by simp[execOp,go_sem,h]
def Us(c a b:U)(h:ev x=aN #[c,a,b]):(execOp ev ⟨d,.extract x 1,ty,ps,af,g⟩).run W w=.ok (az a) w:=by simp[execOp,go_sem,h]
def Rf(c b a:U)(h:ev x=aN #[c,b,a]):(execOp ev ⟨d,.extract x 2,ty,ps,af,g⟩).run W w=.ok (az a) w:=by simp[execOp,go_sem,h]
def afe:(execOp ev ⟨d,.alloc 61,ty,ps,af,g⟩).run W w=.ok (az<|F<|l ⟨w.heap.size,0,E⟩) (w.alloc<|ai bH 61):=by simp[execOp,go_sem]
def Xz:(execOp ev ⟨d,.alloc 73,ty,ps,af,g⟩).run W w=.ok (az<|F<|l ⟨w.heap.size,0,E⟩) (w.alloc<|ai #[J H 0,J H 0,J H 0,J H 0] 73):=by simp[execOp,go_sem]
end
def mC(N G i lb lo nl e:Nat)(h vb f j:U)(k b a:List U)(ab:Bool)(B:Nat):Nat->(Nat->U)->V->Prop|0,s,_=>s 0=F (l ⟨N,4,E⟩)|1,s,_=>s 1=O (l ⟨lb,lo,E⟩) nl e|2,s,_=>s 2=J H (i:Nat)|3,s,_=>s 3=F (l ⟨lb,lo+i*4,E⟩)|4,s,_=>s 4=M #[h,vb,f,j]|5,s,_=>s 5=F (l ⟨G,0,E⟩)|6,s,_=>s 6=F (l ⟨G,0,E⟩)|7,s,_=>s 7=F (l ⟨G,8,E⟩)|8,s,_=>s 8=M k.toArray|9,s,_=>s 9=aN #[M b.toArray,M a.toArray,Z ab]|10,s,_=>s 10=aN #[M b.toArray,M a.toArray,Z ab]|11,s,_=>s 11=M b.toArray|12,s,_=>s 12=M a.toArray|13,s,_=>s 13=Z ab|14,s,w=>∃D c,s 14=F (l ⟨D,0,E⟩)/\B<=D/\iJ w D 61 200 c|15,s,w=>∃R c,s 15=F (l ⟨R,0,E⟩)/\B<=R/\iJ w R 73 4 c|16,s,w=>∃D,s 14=F (l ⟨D,0,E⟩)/\B<=D/\iJ w D 61 200 (lc b)|17,s,w=>∃R,s 15=F (l ⟨R,0,E⟩)/\B<=R/\iJ w R 73 4 (lc a)|18,s,_=>s 18=Z ab|_+19,_,_=>True
noncomputable section
variable{N G i lb lo nl capL:Nat}{va vb vc vd:U}{cs cs' rs':List U}{ab:Bool}{B:Nat}
def mC.rows{w:V}(p:∀D c,iJ w D 61 200 c->∃b,iJ o D 61 200 b)(r:∀R c,iJ w R 73 4 c->∃b,iJ o R 73 4 b){k:Nat}(n:k=16->∀D,iJ w D 61 200 (lc cs')->iJ o D 61 200 (lc cs'))(m:k=17->∀D,iJ w D 73 4 (lc rs')->iJ o D 73 4 (lc rs'))(s:Nat->U)(h:mC N G i lb lo nl capL va vb vc vd cs cs' rs' ab B k s w):mC N G i lb lo nl capL va vb vc vd cs cs' rs' ab B k s o:=by match k,h,n,m with|0,h,_,_|1,h,_,_|2,h,_,_|3,h,_,_|4,h,_,_|5,h,_,_|6,h,_,_|7,h,_,_|8,h,_,_|9,h,_,_|10,h,_,_|11,h,_,_|12,h,_,_|13,h,_,_|18,h,_,_=>exact h|14,⟨D,c,a,j,f⟩,_,_=>obtain⟨b,e⟩:=p D c f;exact⟨D,b,a,j,e⟩|15,⟨D,c,a,j,f⟩,_,_=>obtain⟨b,e⟩:=r D c f;exact⟨D,b,a,j,e⟩|16,⟨D,a,j,f⟩,e,_=>exact⟨D,a,j,e rfl D f⟩|17,⟨D,a,j,f⟩,_,e=>exact⟨D,a,j,e rfl D f⟩|_+19,_,_,_=>trivial
def mC.below{w:V}(a:Below w.heap.size w o)(k:Nat)(s:Nat->U)(h:mC N G i lb lo nl capL va vb vc vd cs cs' rs' ab B k s w):mC N G i lb lo nl capL va vb vc vd cs cs' rs' ab B k s o:=mC.rows (λD c h=>⟨c,h.below a⟩) (λD c h=>⟨c,h.below a⟩) (λ_ D h=>h.below a) (λ_ D h=>h.below a) s h
end
def yP{w:V}{b n:Nat}{c:Nat->U}(h:iJ w b f n c)(a:b≠y)(o:Nat)(e:List U):iJ (w.setCells y o e) b f n c:=h.block<|A9 e o w a
def ED{w:V}{b n:Nat}{c:Nat->U}(h:iJ w b y n c)(a:X.length=n):iJ (w.setCells b 0 X) b y n<|lc X:=(DZ X 0 w c h).congr λj e=>by grind
noncomputable section
variable(w:V)(a:Act)(N G i:Nat)
def RE(hA:kj N G a)(aa:a.tmps.getD 11 z=J H (i:Nat))(lb lo nl capL:Nat)(m4:w.cell? ⟨N,4,E⟩=l (O (l ⟨lb,lo,E⟩) nl capL))(hi:i<nl)(va vb vc vd:U)(c0:w.cell? ⟨lb,lo+i*4,E⟩=l va)(c1:w.cell? ⟨lb,lo+i*4+1,E⟩=l vb)(c2:w.cell? ⟨lb,lo+i*4+2,E⟩=l vc)(c3:w.cell? ⟨lb,lo+i*4+3,E⟩=l vd)(cs cs' rs':List U)(ab:Bool)(ad:cs.length=200)(I:cs'.length=200)(K:rs'.length=4)(ac:cs'.toArray.all (·.oneCell')=q)(Y:rs'.toArray.all (·.oneCell')=q)(hg:w.rangeAt G 8 cs)(hC:∀w1,Below w.heap.size w w1->Calls W 35 #[M #[va,vb,vc,vd],M cs.toArray] w1 λe w'=>e=.returned (aN #[M cs'.toArray,M rs'.toArray,Z ab])/\Below w1.heap.size w1 w'):HZ.wp W (λex s w'=>ex=ae/\(kj N G s/\s.tmps.getD 11 z=J H (i:Nat))/\∃D1 R1,(s.tmps.getD 12 z=F (l ⟨D1,0,E⟩)/\s.tmps.getD 13 z=F (l ⟨R1,0,E⟩)/\s.tmps.getD 14 z=Z ab)/\w.heap.size<=D1/\w.heap.size<=R1/\iJ w' D1 61 200 (lc cs')/\iJ w' R1 73 4 (lc rs')/\Below w.heap.size w w') a w:=by
 obtain⟨g1,g2,g3,g4⟩:=hA;simp only[HZ,sk,lP,nP,ak,ah,iA,iy,iL,ja];refine Hx a JX (by kernel_rfl) (λwx=>Below w.heap.size w wx) (mC N G i lb lo nl capL va vb vc vd cs cs' rs' ab w.heap.size) ?hloc ?hF ?hob ?hend;case hF=>exact(aQ _ _).drew
 case hloc=>intro k s s' wq hs m;match k,hs,m with|0,hs,m=>simp only[mC]at m⊢;simp_all|1,hs,m=>simp only[mC]at m⊢;simp_all|2,hs,m=>simp only[mC]at m⊢;simp_all|3,hs,m=>simp only[mC]at m⊢;rw[<-hs _ rfl 3<|.inl rfl];exact m|4,hs,m=>simp only[mC]at m⊢;simp_all|5,hs,m=>simp only[mC]at m⊢;simp_all|6,hs,m=>simp only[mC]at m⊢;simp_all|7,hs,m=>simp only[mC]at m⊢;simp_all|8,hs,m=>simp only[mC]at m⊢;simp_all|9,hs,m=>simp only[mC]at m⊢;rw[<-hs _ rfl 9<|.inl rfl];exact m|10,hs,m=>simp only[mC]at m⊢;simp_all|11,hs,m=>simp only[mC]at m⊢;simp_all|12,hs,m=>simp only[mC]at m⊢;rw[<-hs _ rfl 12<|.inl rfl];exact m|13,hs,m=>simp only[mC]at m⊢;rw[<-hs _ rfl 13<|.inl rfl];exact m|14,hs,m=>simp only[mC]at m⊢;simp_all|15,hs,m=>simp only[mC]at m⊢;simp_all|16,hs,m=>simp only[mC]at m⊢;rw[<-hs _ rfl 14<|.inr ⟨⟨14,an⟩,by simp,rfl,rfl⟩];exact m|17,hs,m=>simp only[mC]at m⊢;rw[<-hs _ rfl 15<|.inr ⟨⟨15,an⟩,by simp,rfl,rfl⟩];exact m|18,hs,m=>simp only[mC]at m⊢;rw[<-hs _ rfl 18<|.inl rfl];exact m|_+19,hs,m=>trivial
 case hob=>intro io o p t A y S f;have u:=S.size.trans g1;have e1:=(S.out 1<|tX<|by kernel_rfl).trans g3;have e9:=(S.out 9<|tX<|by kernel_rfl).trans g4;have al:=(S.out 11<|tX<|by kernel_rfl).trans aa;have P:=y.size;(have old:∀{b o:Nat}{v:U},w.cell? ⟨b,o,E⟩=l v->A.cell? ⟨b,o,E⟩=l v:=λ{b o v}h=>by rw[aV<|y.block b<|bl _ _ h];exact h);match io,p,f with|0,p,f=>obtain rfl:=ao<|show l _=l o from p;exact j7 (aak t.eval A _ _ _ _ _ _ N e1) ⟨y,λk s _ h=>h,_,rfl,nJ _<|by rw[u];decide⟩|1,p,f=>obtain rfl:=ao<|show l _=l o from p;exact j7 (afL t.eval A _ _ _ _ _ _ N 4 _ _ _ (f ⟨0,an⟩ (by simp) rfl)<|old m4) ⟨y,λk s _ h=>h,_,rfl,nJ _<|by rw[u];decide⟩|2,p,f=>obtain rfl:=ao<|show l _=l o from p;exact j7 (Bl t.eval A _ _ _ _ _ _ _ al) ⟨y,λk s _ h=>h,_,rfl,nJ _<|by rw[u];decide⟩|3,p,f=>obtain rfl:=ao<|show l _=l o from p;exact j7 (Q9 t.eval A _ _ _ _ _ _ _ lb lo i nl capL hi (f ⟨1,an⟩ (by simp) rfl)<|f ⟨2,an⟩ (by simp) rfl) ⟨y,λk s _ h=>h,_,rfl,nJ _<|by rw[u];decide⟩|4,p,f=>obtain rfl:=ao<|show l _=l o from p;exact j7 (YM t.eval A _ _ _ _ _ _ lb (lo+i*4) va vb vc vd (f ⟨3,an⟩ (by simp) rfl) (old c0) (old c1) (old c2)<|old c3) ⟨y,λk s _ h=>h,_,rfl,nJ _<|by rw[u];decide⟩|5,p,f=>obtain rfl:=ao<|show l _=l o from p;exact j7 (Bl t.eval A _ _ _ _ _ _ _ e9) ⟨y,λk s _ h=>h,_,rfl,nJ _<|by rw[u];decide⟩|6,p,f=>obtain rfl:=ao<|show l _=l o from p;exact j7 (afd t.eval A _ _ _ _ _ _ G 0<|f ⟨5,an⟩ (by simp) rfl) ⟨y,λk s _ h=>h,_,rfl,nJ _<|by rw[u];decide⟩|7,p,f=>obtain rfl:=ao<|show l _=l o from p;exact j7 (Uf t.eval A _ _ _ _ _ _ G<|f ⟨6,an⟩ (by simp) rfl) ⟨y,λk s _ h=>h,_,rfl,nJ _<|by rw[u];decide⟩|8,p,f=>obtain rfl:=ao<|show l _=l o from p;exact wp_load_mid 61 (aq 121) rfl G 8 (f ⟨7,an⟩ (by simp) rfl) cs _ (λj v hj=>old<|hg j v hj) bn rfl (by rw[ad];exact wQ) ⟨y,λk s _ h=>h,_,rfl,nJ _<|by rw[u];decide⟩|9,p,f=>obtain rfl:=ao<|show l _=l o from p;refine Ck (ada A _ _ _ _ _ _ _ t _ _ (f ⟨4,an⟩ (by simp) rfl)<|f ⟨8,an⟩ (by simp) rfl) (hC A y) ?_;rintro r am⟨rfl,hb⟩;exact⟨_,rfl,y.trans<|hb.mono P,λk s _ h=>mC.below hb k s h,_,rfl,nJ _<|by rw[u];decide⟩|10,p,f=>obtain rfl:=ao<|show l _=l o from p;exact j7 (Bl t.eval A _ _ _ _ _ _ _<|f ⟨9,an⟩ (by simp) rfl) ⟨y,λk s _ h=>h,_,rfl,nJ _<|by rw[u];decide⟩|11,p,f=>obtain rfl:=ao<|show l _=l o from p;exact j7 (W8 t.eval A _ _ _ _ _ _ _ _ _<|f ⟨10,an⟩ (by simp) rfl) ⟨y,λk s _ h=>h,_,rfl,nJ _<|by rw[u];decide⟩|12,p,f=>obtain rfl:=ao<|show l _=l o from p;exact j7 (Us t.eval A _ _ _ _ _ _ _ _ _<|f ⟨10,an⟩ (by simp) rfl) ⟨y,λk s _ h=>h,_,rfl,nJ _<|by rw[u];decide⟩|13,p,f=>obtain rfl:=ao<|show l _=l o from p;exact j7 (Rf t.eval A _ _ _ _ _ _ _ _ _<|f ⟨10,an⟩ (by simp) rfl) ⟨y,λk s _ h=>h,_,rfl,nJ _<|by rw[u];decide⟩|14,p,f=>obtain rfl:=ao<|show l _=l o from p;have hr:=km A Tryz.zeroCells61.toList 61;rw[bd,bg,FV]at hr;exact j7 (afe t.eval A _ _ _ _ _) ⟨y.alloc P _,λk s _ h=>mC.below ((aQ _ _).alloc (aF _) _) k s h,_,rfl,A.heap.size,_,nJ _<|by rw[u];decide,P,hr⟩|15,p,f=>obtain rfl:=ao<|show l _=l o from p;exact j7 (Xz t.eval A _ _ _ _ _) ⟨y.alloc P _,λk s _ h=>mC.below ((aQ _ _).alloc (aF _) _) k s h,_,rfl,A.heap.size,_,nJ _<|by rw[u];decide,P,km A [J H 0,J H 0,J H 0,J H 0] 73⟩|16,p,f=>obtain rfl:=ao<|show l _=l o from p;obtain⟨D,c,d1,d2,d3⟩:=f ⟨14,an⟩ (by simp) rfl;have X:=f ⟨11,an⟩ (by simp) rfl;refine wp_store_mid 61 (aq 12) (aq 124) rfl D 0 cs'.toArray d1 X (by rw[bm,I];exact xr d3) (by rw[bm,I];exact wQ) ac ⟨Ao d2 _ _ _ y,λk s hk h=>?_,_,rfl,?_⟩;(.refine mC.rows (λD' T C=>?_) (λR T C=>⟨T,yP C (C.ty.ne d3.ty<|by decide) _ _⟩) (λe=>absurd e hk) (λ_ R C=>yP C (C.ty.ne d3.ty<|by decide) _ _) s h;by_cases e:D'=D;(.subst e;exact⟨_,ED C I⟩);.exact⟨T,yP C e _ _⟩);.exact⟨D,d1,d2,ED d3 I⟩|17,p,f=>obtain rfl:=ao<|show l _=l o from p;obtain⟨D,c,d1,d2,d3⟩:=f ⟨15,an⟩ (by simp) rfl;have X:=f ⟨12,an⟩ (by simp) rfl;refine wp_store_mid 73 (aq 13) (aq 125) rfl D 0 rs'.toArray d1 X (by rw[bm,K];exact xr d3) (by rw[bm,K];exact zz) Y ⟨Ao d2 _ _ _ y,λk s hk h=>?_,_,rfl,?_⟩;(.refine mC.rows (λR T C=>⟨T,yP C (C.ty.ne d3.ty<|by decide) _ _⟩) (λD' T C=>?_) (λ_ R C=>yP C (C.ty.ne d3.ty<|by decide) _ _) (λe=>absurd e hk) s h;by_cases e:D'=D;(.subst e;exact⟨_,ED C K⟩);.exact⟨T,yP C e _ _⟩);.exact⟨D,d1,d2,ED d3 K⟩|18,p,f=>obtain rfl:=ao<|show l _=l o from p;exact j7 (Mu t.eval A _ _ _ _ _ _ _<|f ⟨13,an⟩ (by simp) rfl) ⟨y,λk s _ h=>h,_,rfl,nJ _<|by rw[u];decide⟩|n+19,p,f=>simp at p
 case hend=>intro t w4 y S Q;obtain⟨D,d1,d2,d3⟩:=Q 16 (by simp);obtain⟨R,r1,r2,r3⟩:=Q 17 (by simp);exact⟨rfl,⟨⟨S.size.trans g1,S.defers.trans g2,(S.out 1<|tX<|by kernel_rfl).trans g3,(S.out 9<|tX<|by kernel_rfl).trans g4⟩,(S.out 11<|tX<|by kernel_rfl).trans aa⟩,D,R,⟨d1,r1,Q 18<|by simp⟩,d2,r2,d3,r3,y⟩
end
end
end Go.Proofs.YtldeiiffabfmeaaGreatDoor
namespace Go.Rel
noncomputable section
open Go.RowKit
noncomputable section
variable{P:Program}{ops:Array aP}{Q:Exit->Act->V->Prop}{S:V->Prop}
def abR{id n:Nat}{tail:List Nat}{w:V}{a:Act}(g:P.follows .mixedOrders=q)(hcut:uF (P.follows .mixedOrders) ops n tail)(j:n<=ops.size)(p:(ops.toList.all λo=>o.guard.isNone)=q)(h:wpAnyH P .any (ops.extract 0 n) (Exit.then (wpOps P ops Q tail) Q) S n (bI n au) a {w with drawn:=w.drawn+1}):(bj id ops q).wp P Q a w:=by
 have b:∀(i:Nat)o,ops[i]?=l o->o.guard=E:=by intro i o k;have:=bJ.1 p o (by simpa using Array.mem_of_getElem? k);cases c:o.guard with|none=>rfl|some x=>rw[c]at this;cases this
 have d:(ops.extract 0 n).size=n:=by simp;omega
 refine wp_region_draw λt=>?_;obtain⟨f,e,m⟩:=Ig hcut t;rw[e];refine FN j b _ _ _ m ?_;simp only[Region.schedule,g,Bool.true_or,if_true];refine wpAny_sound _ f _ a _<|wpAny_of_held (S:=S) _ _ _ _ ?_;rw[d];exact h
def BH{o:aP}{a:Act}(b:o.guard=E)(h:∀w,S w->(execOp a.eval o).run P w=.ok (az A) w):bA P ops S o A a:=.inl ⟨ua b,h⟩
def Li{o:aP}{a:Act}{x:aE}(d:o.guard=E)(b:o.op=.move x)(c:a.eval x=A):bA P ops S o A a:=BH d λw _=>by unfold execOp;simp only[b];subst c;simp[go_sem]
def Od{o:aP}{a:Act}{x:aE}{b:ax}(d:o.guard=E)(c:o.op=.nilCheck x)(e:a.eval x=F (l b)):bA P ops S o (F<|l b) a:=BH d λw _=>by unfold execOp;simp only[c,e];simp[go_sem]
end
end
end Go.Rel
namespace Go.Proofs.YtldeiiffabfmeaaGreatDoor
noncomputable section
open Go.RowKit Go.Maps Go.Rel Go.Sort
def Tryz.ZM:(Tryz.prog.info? 4).map (λi=>(i.zero,i.size,i.bytes))=l (l<|Z au,1,1):=by kernel_rfl
def Tryz.acj:(Tryz.prog.info? 73).map (λi=>(i.zero,i.size,i.bytes))=l (l<|M #[J H 0,J H 0,J H 0,J H 0],4,32):=by kernel_rfl
def Stop(p:Prop):Prop:=p
def VJ{p:Prop}(h:Stop p):p:=h
def SS:mB=bj 17 (jV mB) q:=by kernel_rfl
def J9{o:aP}(ev:aE->U)(w:V){x:aE}(a:o.op=.fieldAddr 65 x 4)(G:Nat)(h:ev x=F (l ⟨G,0,E⟩)):(execOp ev o).run W w=.ok (az<|F<|l ⟨G,208,E⟩) w:=by unfold execOp;simp only[a,h];simp[go_sem]
def Rp{o:aP}(ev:aE->U)(w:V){x:aE}(c:o.op=.load 62 x)(G k:Nat)(b:Option ax)(n p:Nat)(h:ev x=F (l ⟨G,k,E⟩))(a:w.cell? ⟨G,k,E⟩=l (O b n p)):(execOp ev o).run W w=.ok (az<|O b n p) w:=by unfold execOp;simp only[c,h];simp[go_sem,a]
def aeH{o:aP}(ev:aE->U)(w:V){x y:aE}(c:o.op=.store 62 x y)(G k:Nat)(b:Option ax)(n p:Nat)(old:U)(h:ev x=F (l ⟨G,k,E⟩))(a:ev y=O b n p)(e:w.cell? ⟨G,k,E⟩=l old)(d:w.frozen? ⟨G,k,E⟩=au):(execOp ev o).run W w=.ok .skip (w.setCell ⟨G,k,E⟩<|O b n p):=by unfold execOp;simp only[c,h,a];simp[go_sem,e,d]
def UM{o:aP}(ev:aE->U)(w:V){x:aE}(a:o.op=.buildSlice 62 1 #[(0,x)])(r0 r1 r2 r3:Int)(h:ev x=M #[J H r0,J H r1,J H r2,J H r3]):(execOp ev o).run W w=.ok (az<|O (l ⟨w.heap.size,0,E⟩) 1 1) (w.alloc<|ai #[J H r0,J H r1,J H r2,J H r3] 73):=by unfold execOp;simp only[a];simp[go_sem,h]
noncomputable section
variable(w:V)(N G i:Nat)
def QH(a:Act)(R1 B n:Nat)(ab:Bool)(v:U)(xs:List U)(r:Nat->Int)(hA:kj N G a)(a2:a.tmps.getD 11 z=J H (i:Nat))(a4:a.tmps.getD 13 z=F (l ⟨R1,0,E⟩))(a0:a.tmps.getD 14 z=Z ab)(m:w.cell? ⟨G,208,E⟩=l v)(hf:w.frozen? ⟨G,208,E⟩=au)(a6:l G≠v.ownBlock)(aC:w.rangeAt R1 0<|jT r)(bc:l R1≠v.ownBlock)(br:B<=w.heap.size)(hn:n<=100)(aB:w.ownsRow B 73 4 v n xs):mB.wp W (λex s w'=>ex=ae/\(kj N G s/\s.tmps.getD 11 z=J H (i:Nat)/\s.tmps.getD 14 z=Z ab)/\∃(v':U)(w1:V),w1.ownsRow B 73 4 v' (n+1) (xs++jT r)/\(w.heap.size<=w1.heap.size/\∀b,b<w.heap.size->l b≠v.ownBlock->w1.heap[b]?=w.heap[b]?)/\w'=w1.setCell ⟨G,208,E⟩ v') a w:=by
 obtain⟨g1,g2,g3,g4⟩:=hA;obtain⟨i0,bp,bo,a8,be⟩:=info_parts Tryz.acj;obtain⟨R,f,rfl⟩:=qR aB;have bt:G<w.heap.size:=bl _ _ m;have bY:R1<w.heap.size:=bl _ _<|aC 0 (J H<|r 0) rfl;rw[SS];refine abR (n:=10) (tail:=[10]) (S:=λw'=>w'.cell? ⟨G,208,E⟩=l (O R n f)/\w'.rangeAt R1 0 (jT r)) (by kernel_rfl) (zi (by kernel_rfl) _) (by decide) (by kernel_rfl) ?_;have bf:({w with drawn:=w.drawn+1}:V).heap=w.heap:=rfl;have m':({w with drawn:=w.drawn+1}:V).cell? ⟨G,208,E⟩=l (O R n f):=m;have ac:({w with drawn:=w.drawn+1}:V).rangeAt R1 0<|jT r:=aC;have aS:({w with drawn:=w.drawn+1}:V).ownsRow B 73 4 (O R n f) n xs:=aB;generalize({w with drawn:=w.drawn+1}:V)=w1 at*;have hq:∀{Y:Exit->Act->V->Prop}{X:Act->V->Prop}{d:Option Tmp}{u:U},(∀ex a w,Y ex a w->ex=ae)->∀c a w,(Exit.then X Y) (bB c) (L a d u) w->(Exit.then X Y) (bB c) a w:=λhY c a w h=>absurd (hY _ _ _ h) (by simp);replace hq:∀{X:Act->V->Prop}{d:Option Tmp}{u:U},∀c a w',(Exit.then X λex s w'=>ex=ae/\(kj N G s/\s.tmps.getD 11 z=J H (i:Nat)/\s.tmps.getD 14 z=Z ab)/\∃(v':U)(w1:V),w1.ownsRow B 73 4 v' (n+1) (xs++jT r)/\(w.heap.size<=w1.heap.size/\∀b,b<w.heap.size->l b≠(O R n f).ownBlock->w1.heap[b]?=w.heap[b]?)/\w'=w1.setCell ⟨G,208,E⟩ v') (bB c) (L a d u) w'->_:=hq (λex a w' h=>h.1);obtain⟨d0,d1,d2,d3,d4,d5,d6,d7,d8,d9⟩:(opAt (opsL mB) 0).dst=l 131/\(opAt (opsL mB) 1).dst=l 132/\(opAt (opsL mB) 2).dst=l 133/\(opAt (opsL mB) 3).dst=l 134/\(opAt (opsL mB) 4).dst=l 135/\(opAt (opsL mB) 5).dst=l 136/\(opAt (opsL mB) 6).dst=l 137/\(opAt (opsL mB) 7).dst=l 138/\(opAt (opsL mB) 8).dst=l 139/\(opAt (opsL mB) 9).dst=l 140:=⟨by kernel_rfl,by kernel_rfl,by kernel_rfl,by kernel_rfl,by kernel_rfl,by kernel_rfl,by kernel_rfl,by kernel_rfl,by kernel_rfl,by kernel_rfl⟩;obtain⟨o6,o7,a9⟩:((jV mB).extract 0 10)[6]?=l (opAt (opsL mB) 6)/\((jV mB).extract 0 10)[7]?=l (opAt (opsL mB) 7)/\(jV mB)[10]?=l (opAt (opsL mB) 10):=⟨by kernel_rfl,by kernel_rfl,by kernel_rfl⟩;have al:(opAt (opsL mB) 10).dst=E:=by kernel_rfl
 obtain⟨k6,k7,bi⟩:(opAt (opsL mB) 6).guard=E/\(opAt (opsL mB) 7).guard=E/\(opAt (opsL mB) 10).guard=E:=⟨by kernel_rfl,by kernel_rfl,by kernel_rfl⟩;have e:=g1;have A:=g2;have E1:=g3;have E9:=g4;have D:=a2;have C:=a4;have t:=a0;refine wpAnyH_take (i:=0) (oi:=opAt (opsL mB) 0) (by kernel_rfl) (by kernel_rfl) (by kernel_rfl) (by kernel_rfl) hq (Li (x:=aq 9) (by kernel_rfl) (by kernel_rfl) E9) ⟨m',ac⟩ ?_;rw[d0];replace e:(L a (l 131)<|F<|l ⟨G,0,E⟩).tmps.size=152:=by rw[kx];exact e
 replace A:(L a (l 131)<|F<|l ⟨G,0,E⟩).defers=[]:=by rw[put_defers];exact A
 replace E1:(L a (l 131)<|F<|l ⟨G,0,E⟩).tmps.getD 1 z=F (l ⟨N,0,E⟩):=by rw[iK _<|by decide];exact E1
 replace E9:(L a (l 131)<|F<|l ⟨G,0,E⟩).tmps.getD 9 z=F (l ⟨G,0,E⟩):=by rw[iK _<|by decide];exact E9
 replace D:(L a (l 131)<|F<|l ⟨G,0,E⟩).tmps.getD 11 z=J H (i:Nat):=by rw[iK _<|by decide];exact D
 replace C:(L a (l 131)<|F<|l ⟨G,0,E⟩).tmps.getD 13 z=F (l ⟨R1,0,E⟩):=by rw[iK _<|by decide];exact C
 replace t:(L a (l 131)<|F<|l ⟨G,0,E⟩).tmps.getD 14 z=Z ab:=by rw[iK _<|by decide];exact t
 have k:(L a (l 131)<|F<|l ⟨G,0,E⟩).tmps.getD 131 z=F (l ⟨G,0,E⟩):=m8 _ (by rw[kx]at e;rw[e];decide);clear g1 g2 g3 g4 a2 a4 a0;generalize(L a (l 131)<|F<|l ⟨G,0,E⟩)=a at*;refine wpAnyH_take (i:=1) (oi:=opAt (opsL mB) 1) (by kernel_rfl) (by kernel_rfl) (by kernel_rfl) (by kernel_rfl) hq (Li (x:=aq 9) (by kernel_rfl) (by kernel_rfl) E9) ⟨m',ac⟩ ?_;rw[d1];replace e:(L a (l 132)<|F<|l ⟨G,0,E⟩).tmps.size=152:=by rw[kx];exact e
 replace A:(L a (l 132)<|F<|l ⟨G,0,E⟩).defers=[]:=by rw[put_defers];exact A
 replace E1:(L a (l 132)<|F<|l ⟨G,0,E⟩).tmps.getD 1 z=F (l ⟨N,0,E⟩):=by rw[iK _<|by decide];exact E1
 replace E9:(L a (l 132)<|F<|l ⟨G,0,E⟩).tmps.getD 9 z=F (l ⟨G,0,E⟩):=by rw[iK _<|by decide];exact E9
 replace D:(L a (l 132)<|F<|l ⟨G,0,E⟩).tmps.getD 11 z=J H (i:Nat):=by rw[iK _<|by decide];exact D
 replace C:(L a (l 132)<|F<|l ⟨G,0,E⟩).tmps.getD 13 z=F (l ⟨R1,0,E⟩):=by rw[iK _<|by decide];exact C
 replace t:(L a (l 132)<|F<|l ⟨G,0,E⟩).tmps.getD 14 z=Z ab:=by rw[iK _<|by decide];exact t
 replace k:(L a (l 132)<|F<|l ⟨G,0,E⟩).tmps.getD 131 z=F (l ⟨G,0,E⟩):=by rw[iK _<|by decide];exact k
 have o:(L a (l 132)<|F<|l ⟨G,0,E⟩).tmps.getD 132 z=F (l ⟨G,0,E⟩):=m8 _ (by rw[kx]at e;rw[e];decide);generalize(L a (l 132)<|F<|l ⟨G,0,E⟩)=a at*;refine wpAnyH_take (i:=2) (oi:=opAt (opsL mB) 2) (by kernel_rfl) (by kernel_rfl) (by kernel_rfl) (by kernel_rfl) hq (Od (x:=aq 132) (by kernel_rfl) (by kernel_rfl) o) ⟨m',ac⟩ ?_;rw[d2];replace e:(L a (l 133)<|F<|l ⟨G,0,E⟩).tmps.size=152:=by rw[kx];exact e
 replace A:(L a (l 133)<|F<|l ⟨G,0,E⟩).defers=[]:=by rw[put_defers];exact A
 replace E1:(L a (l 133)<|F<|l ⟨G,0,E⟩).tmps.getD 1 z=F (l ⟨N,0,E⟩):=by rw[iK _<|by decide];exact E1
 replace E9:(L a (l 133)<|F<|l ⟨G,0,E⟩).tmps.getD 9 z=F (l ⟨G,0,E⟩):=by rw[iK _<|by decide];exact E9
 replace D:(L a (l 133)<|F<|l ⟨G,0,E⟩).tmps.getD 11 z=J H (i:Nat):=by rw[iK _<|by decide];exact D
 replace C:(L a (l 133)<|F<|l ⟨G,0,E⟩).tmps.getD 13 z=F (l ⟨R1,0,E⟩):=by rw[iK _<|by decide];exact C
 replace t:(L a (l 133)<|F<|l ⟨G,0,E⟩).tmps.getD 14 z=Z ab:=by rw[iK _<|by decide];exact t
 replace k:(L a (l 133)<|F<|l ⟨G,0,E⟩).tmps.getD 131 z=F (l ⟨G,0,E⟩):=by rw[iK _<|by decide];exact k
 replace o:(L a (l 133)<|F<|l ⟨G,0,E⟩).tmps.getD 132 z=F (l ⟨G,0,E⟩):=by rw[iK _<|by decide];exact o
 have p:(L a (l 133)<|F<|l ⟨G,0,E⟩).tmps.getD 133 z=F (l ⟨G,0,E⟩):=m8 _ (by rw[kx]at e;rw[e];decide);generalize(L a (l 133)<|F<|l ⟨G,0,E⟩)=a at*;refine wpAnyH_take (i:=3) (oi:=opAt (opsL mB) 3) (by kernel_rfl) (by kernel_rfl) (by kernel_rfl) (by kernel_rfl) hq (BH (by kernel_rfl) λw _=>J9 _ w (x:=aq 133) (by kernel_rfl) G p) ⟨m',ac⟩ ?_;rw[d3];replace e:(L a (l 134)<|F<|l ⟨G,208,E⟩).tmps.size=152:=by rw[kx];exact e
 replace A:(L a (l 134)<|F<|l ⟨G,208,E⟩).defers=[]:=by rw[put_defers];exact A
 replace E1:(L a (l 134)<|F<|l ⟨G,208,E⟩).tmps.getD 1 z=F (l ⟨N,0,E⟩):=by rw[iK _<|by decide];exact E1
 replace E9:(L a (l 134)<|F<|l ⟨G,208,E⟩).tmps.getD 9 z=F (l ⟨G,0,E⟩):=by rw[iK _<|by decide];exact E9
 replace D:(L a (l 134)<|F<|l ⟨G,208,E⟩).tmps.getD 11 z=J H (i:Nat):=by rw[iK _<|by decide];exact D
 replace C:(L a (l 134)<|F<|l ⟨G,208,E⟩).tmps.getD 13 z=F (l ⟨R1,0,E⟩):=by rw[iK _<|by decide];exact C
 replace t:(L a (l 134)<|F<|l ⟨G,208,E⟩).tmps.getD 14 z=Z ab:=by rw[iK _<|by decide];exact t
 replace k:(L a (l 134)<|F<|l ⟨G,208,E⟩).tmps.getD 131 z=F (l ⟨G,0,E⟩):=by rw[iK _<|by decide];exact k
 replace o:(L a (l 134)<|F<|l ⟨G,208,E⟩).tmps.getD 132 z=F (l ⟨G,0,E⟩):=by rw[iK _<|by decide];exact o
 replace p:(L a (l 134)<|F<|l ⟨G,208,E⟩).tmps.getD 133 z=F (l ⟨G,0,E⟩):=by rw[iK _<|by decide];exact p
 have I:(L a (l 134)<|F<|l ⟨G,208,E⟩).tmps.getD 134 z=F (l ⟨G,208,E⟩):=m8 _ (by rw[kx]at e;rw[e];decide);generalize(L a (l 134)<|F<|l ⟨G,208,E⟩)=a at*;refine wpAnyH_take (i:=4) (oi:=opAt (opsL mB) 4) (v:=O R n f) (by kernel_rfl) (by kernel_rfl) (by kernel_rfl) (by kernel_rfl) hq (BH (by kernel_rfl) λw hS=>Rp _ w (x:=aq 134) (by kernel_rfl) G 208 _ _ _ I hS.1) ⟨m',ac⟩ ?_;rw[d4];replace e:(L a (l 135)<|O R n f).tmps.size=152:=by rw[kx];exact e
 replace A:(L a (l 135)<|O R n f).defers=[]:=by rw[put_defers];exact A
 replace E1:(L a (l 135)<|O R n f).tmps.getD 1 z=F (l ⟨N,0,E⟩):=by rw[iK _<|by decide];exact E1
 replace E9:(L a (l 135)<|O R n f).tmps.getD 9 z=F (l ⟨G,0,E⟩):=by rw[iK _<|by decide];exact E9
 replace D:(L a (l 135)<|O R n f).tmps.getD 11 z=J H (i:Nat):=by rw[iK _<|by decide];exact D
 replace C:(L a (l 135)<|O R n f).tmps.getD 13 z=F (l ⟨R1,0,E⟩):=by rw[iK _<|by decide];exact C
 replace t:(L a (l 135)<|O R n f).tmps.getD 14 z=Z ab:=by rw[iK _<|by decide];exact t
 replace k:(L a (l 135)<|O R n f).tmps.getD 131 z=F (l ⟨G,0,E⟩):=by rw[iK _<|by decide];exact k
 replace o:(L a (l 135)<|O R n f).tmps.getD 132 z=F (l ⟨G,0,E⟩):=by rw[iK _<|by decide];exact o
 replace p:(L a (l 135)<|O R n f).tmps.getD 133 z=F (l ⟨G,0,E⟩):=by rw[iK _<|by decide];exact p
 replace I:(L a (l 135)<|O R n f).tmps.getD 134 z=F (l ⟨G,208,E⟩):=by rw[iK _<|by decide];exact I
 have P:(L a (l 135)<|O R n f).tmps.getD 135 z=O R n f:=m8 _ (by rw[kx]at e;rw[e];decide);generalize(L a (l 135)<|O R n f)=a at*;refine wpAnyH_take (i:=5) (oi:=opAt (opsL mB) 5) (v:=M (jT r).toArray) (by kernel_rfl) (by kernel_rfl) (by kernel_rfl) (by kernel_rfl) hq (yieldsIf_load_mid (by kernel_rfl) 73 (aq 13) (by kernel_rfl) R1 0 C (jT r) _ (λw h=>h.2) bF rfl zz) ⟨m',ac⟩ ?_;rw[d5];replace e:(L a (l 136)<|M (jT r).toArray).tmps.size=152:=by rw[kx];exact e
 replace A:(L a (l 136)<|M (jT r).toArray).defers=[]:=by rw[put_defers];exact A
 replace E1:(L a (l 136)<|M (jT r).toArray).tmps.getD 1 z=F (l ⟨N,0,E⟩):=by rw[iK _<|by decide];exact E1
 replace E9:(L a (l 136)<|M (jT r).toArray).tmps.getD 9 z=F (l ⟨G,0,E⟩):=by rw[iK _<|by decide];exact E9
 replace D:(L a (l 136)<|M (jT r).toArray).tmps.getD 11 z=J H (i:Nat):=by rw[iK _<|by decide];exact D
 replace C:(L a (l 136)<|M (jT r).toArray).tmps.getD 13 z=F (l ⟨R1,0,E⟩):=by rw[iK _<|by decide];exact C
 replace t:(L a (l 136)<|M (jT r).toArray).tmps.getD 14 z=Z ab:=by rw[iK _<|by decide];exact t
 replace k:(L a (l 136)<|M (jT r).toArray).tmps.getD 131 z=F (l ⟨G,0,E⟩):=by rw[iK _<|by decide];exact k
 replace o:(L a (l 136)<|M (jT r).toArray).tmps.getD 132 z=F (l ⟨G,0,E⟩):=by rw[iK _<|by decide];exact o
 replace p:(L a (l 136)<|M (jT r).toArray).tmps.getD 133 z=F (l ⟨G,0,E⟩):=by rw[iK _<|by decide];exact p
 replace I:(L a (l 136)<|M (jT r).toArray).tmps.getD 134 z=F (l ⟨G,208,E⟩):=by rw[iK _<|by decide];exact I
 replace P:(L a (l 136)<|M (jT r).toArray).tmps.getD 135 z=O R n f:=by rw[iK _<|by decide];exact P
 have Q:(L a (l 136)<|M (jT r).toArray).tmps.getD 136 z=M (jT r).toArray:=m8 _ (by rw[kx]at e;rw[e];decide);generalize(L a (l 136)<|M (jT r).toArray)=a at*;refine wpAnyH_all (rs:=[6]) (by kernel_rfl) (by simp) λi hi=>?_;obtain rfl:i=6:=by simpa using hi
 unfold wpOp;rw[o6];simp only[ua k6,if_true];have a3:=km w1 [J H<|r 0,J H<|r 1,J H<|r 2,J H<|r 3] 73;have aT:∀b,b<w1.heap.size->(w1.alloc<|ai #[J H<|r 0,J H<|r 1,J H<|r 2,J H<|r 3] 73).heap[b]?=w1.heap[b]?:=λb hb=>bu _ _ _ hb;have bX:w1.heap.size<=(w1.alloc<|ai #[J H<|r 0,J H<|r 1,J H<|r 2,J H<|r 3] 73).heap.size:=by simp
 have aO:=xZ aS<|(aQ w1.heap.size w1).alloc (aF _)<|ai #[J H<|r 0,J H<|r 1,J H<|r 2,J H<|r 3] 73;refine .inl<|j7 (UM _ w1 (x:=aq 136) (by kernel_rfl) (r 0) (r 1) (r 2) (r 3) Q) ?_;have a5:w1.heap=w.heap:=bf;have aR:∀j u,(jT r)[j]?=l u->(w1.alloc<|ai #[J H<|r 0,J H<|r 1,J H<|r 2,J H<|r 3] 73).cell? ((⟨w1.heap.size,0,E⟩:ax).add j)=l u:=by intro j u hj;obtain⟨h1,h2⟩:=bC.1 hj;rw[nT,Nat.zero_add,a3.cell<|show j<4 from h1];unfold lc;rw[bK];exact congrArg l (by rw[show[J H<|r 0,J H<|r 1,J H<|r 2,J H<|r 3]=jT r from rfl,hj];rfl)
 have bv:w1.heap.size=w.heap.size:=by rw[a5]
 have bb:(w1.alloc<|ai #[J H<|r 0,J H<|r 1,J H<|r 2,J H<|r 3] 73).cell? ⟨G,208,E⟩=l (O R n f)/\(w1.alloc<|ai #[J H<|r 0,J H<|r 1,J H<|r 2,J H<|r 3] 73).rangeAt R1 0 (jT r):=⟨by rw[aV<|aT G<|by omega];exact m',λj u hj=>by rw[aV<|aT R1<|by omega];exact ac j u hj⟩;generalize bx:w1.heap.size=q0 at*;generalize(w1.alloc<|ai #[J H<|r 0,J H<|r 1,J H<|r 2,J H<|r 3] 73)=w2 at*;refine⟨bb,?_⟩;rw[d6];replace e:(L a (l 137)<|O (l ⟨q0,0,E⟩) 1 1).tmps.size=152:=by rw[kx];exact e
 replace A:(L a (l 137)<|O (l ⟨q0,0,E⟩) 1 1).defers=[]:=by rw[put_defers];exact A
 replace E1:(L a (l 137)<|O (l ⟨q0,0,E⟩) 1 1).tmps.getD 1 z=F (l ⟨N,0,E⟩):=by rw[iK _<|by decide];exact E1
 replace E9:(L a (l 137)<|O (l ⟨q0,0,E⟩) 1 1).tmps.getD 9 z=F (l ⟨G,0,E⟩):=by rw[iK _<|by decide];exact E9
 replace D:(L a (l 137)<|O (l ⟨q0,0,E⟩) 1 1).tmps.getD 11 z=J H (i:Nat):=by rw[iK _<|by decide];exact D
 replace C:(L a (l 137)<|O (l ⟨q0,0,E⟩) 1 1).tmps.getD 13 z=F (l ⟨R1,0,E⟩):=by rw[iK _<|by decide];exact C
 replace t:(L a (l 137)<|O (l ⟨q0,0,E⟩) 1 1).tmps.getD 14 z=Z ab:=by rw[iK _<|by decide];exact t
 replace k:(L a (l 137)<|O (l ⟨q0,0,E⟩) 1 1).tmps.getD 131 z=F (l ⟨G,0,E⟩):=by rw[iK _<|by decide];exact k
 replace o:(L a (l 137)<|O (l ⟨q0,0,E⟩) 1 1).tmps.getD 132 z=F (l ⟨G,0,E⟩):=by rw[iK _<|by decide];exact o
 replace p:(L a (l 137)<|O (l ⟨q0,0,E⟩) 1 1).tmps.getD 133 z=F (l ⟨G,0,E⟩):=by rw[iK _<|by decide];exact p
 replace I:(L a (l 137)<|O (l ⟨q0,0,E⟩) 1 1).tmps.getD 134 z=F (l ⟨G,208,E⟩):=by rw[iK _<|by decide];exact I
 replace P:(L a (l 137)<|O (l ⟨q0,0,E⟩) 1 1).tmps.getD 135 z=O R n f:=by rw[iK _<|by decide];exact P
 replace Q:(L a (l 137)<|O (l ⟨q0,0,E⟩) 1 1).tmps.getD 136 z=M (jT r).toArray:=by rw[iK _<|by decide];exact Q
 have T:(L a (l 137)<|O (l ⟨q0,0,E⟩) 1 1).tmps.getD 137 z=O (l ⟨q0,0,E⟩) 1 1:=m8 _ (by rw[kx]at e;rw[e];decide);generalize(L a (l 137)<|O (l ⟨q0,0,E⟩) 1 1)=a at*;refine wpAnyH_all (rs:=[7]) (by kernel_rfl) (by simp) λi hi=>?_;obtain rfl:i=7:=by simpa using hi
 unfold wpOp;rw[o7];simp only[ua k7,if_true];refine .inl<|wp_append_own w2 (aq 135) (aq 137) 62 (by kernel_rfl) B 73 i0 (M #[J H 0,J H 0,J H 0,J H 0]) 4 32 Tryz.underlying62 bp bo a8 be rfl (by decide) _ n xs P aO ⟨q0,0,E⟩ 1 1 (jT r) T rfl aR (by simp[jT,aX]) (by unfold maxLen;omega) (by omega) (by omega) ?_;intro v' w3 ap am _;obtain⟨K,g,rfl⟩:=qR ap;have ad:∀b,b<w.heap.size->l b≠(O R n f).ownBlock->w3.heap[b]?=w.heap[b]?:=λb hb ba=>by rw[am.block b (by omega) ba,aT b<|by omega,a5]
 have a7:w.heap.size<=w3.heap.size:=by have:=am.size;omega
 have mG:w3.cell? ⟨G,208,E⟩=l (O R n f):=by rw[aV<|ad G (by omega) a6];exact m
 have fG:w3.frozen? ⟨G,208,E⟩=au:=by rw[bN<|ad G (by omega) a6];exact hf
 have aL:w3.rangeAt R1 0<|jT r:=λj u hj=>by rw[aV<|ad R1 (by omega) bc];exact aC j u hj
 refine⟨⟨mG,aL⟩,?_⟩;rw[d7];replace e:(L a (l 138)<|O K (n+1) g).tmps.size=152:=by rw[kx];exact e
 replace A:(L a (l 138)<|O K (n+1) g).defers=[]:=by rw[put_defers];exact A
 replace E1:(L a (l 138)<|O K (n+1) g).tmps.getD 1 z=F (l ⟨N,0,E⟩):=by rw[iK _<|by decide];exact E1
 replace E9:(L a (l 138)<|O K (n+1) g).tmps.getD 9 z=F (l ⟨G,0,E⟩):=by rw[iK _<|by decide];exact E9
 replace D:(L a (l 138)<|O K (n+1) g).tmps.getD 11 z=J H (i:Nat):=by rw[iK _<|by decide];exact D
 replace C:(L a (l 138)<|O K (n+1) g).tmps.getD 13 z=F (l ⟨R1,0,E⟩):=by rw[iK _<|by decide];exact C
 replace t:(L a (l 138)<|O K (n+1) g).tmps.getD 14 z=Z ab:=by rw[iK _<|by decide];exact t
 replace k:(L a (l 138)<|O K (n+1) g).tmps.getD 131 z=F (l ⟨G,0,E⟩):=by rw[iK _<|by decide];exact k
 replace o:(L a (l 138)<|O K (n+1) g).tmps.getD 132 z=F (l ⟨G,0,E⟩):=by rw[iK _<|by decide];exact o
 replace p:(L a (l 138)<|O K (n+1) g).tmps.getD 133 z=F (l ⟨G,0,E⟩):=by rw[iK _<|by decide];exact p
 replace I:(L a (l 138)<|O K (n+1) g).tmps.getD 134 z=F (l ⟨G,208,E⟩):=by rw[iK _<|by decide];exact I
 replace P:(L a (l 138)<|O K (n+1) g).tmps.getD 135 z=O R n f:=by rw[iK _<|by decide];exact P
 replace Q:(L a (l 138)<|O K (n+1) g).tmps.getD 136 z=M (jT r).toArray:=by rw[iK _<|by decide];exact Q
 replace T:(L a (l 138)<|O K (n+1) g).tmps.getD 137 z=O (l ⟨q0,0,E⟩) 1 1:=by rw[iK _<|by decide];exact T
 have aa:(L a (l 138)<|O K (n+1) g).tmps.getD 138 z=O K (n+1) g:=m8 _ (by rw[kx]at e;rw[e];decide);generalize(L a (l 138)<|O K (n+1) g)=a at*;refine wpAnyH_take (i:=8) (oi:=opAt (opsL mB) 8) (by kernel_rfl) (by kernel_rfl) (by kernel_rfl) (by kernel_rfl) hq (Od (x:=aq 131) (by kernel_rfl) (by kernel_rfl) k) ⟨mG,aL⟩ ?_;rw[d8];replace e:(L a (l 139)<|F<|l ⟨G,0,E⟩).tmps.size=152:=by rw[kx];exact e
 replace A:(L a (l 139)<|F<|l ⟨G,0,E⟩).defers=[]:=by rw[put_defers];exact A
 replace E1:(L a (l 139)<|F<|l ⟨G,0,E⟩).tmps.getD 1 z=F (l ⟨N,0,E⟩):=by rw[iK _<|by decide];exact E1
 replace E9:(L a (l 139)<|F<|l ⟨G,0,E⟩).tmps.getD 9 z=F (l ⟨G,0,E⟩):=by rw[iK _<|by decide];exact E9
 replace D:(L a (l 139)<|F<|l ⟨G,0,E⟩).tmps.getD 11 z=J H (i:Nat):=by rw[iK _<|by decide];exact D
 replace C:(L a (l 139)<|F<|l ⟨G,0,E⟩).tmps.getD 13 z=F (l ⟨R1,0,E⟩):=by rw[iK _<|by decide];exact C
 replace t:(L a (l 139)<|F<|l ⟨G,0,E⟩).tmps.getD 14 z=Z ab:=by rw[iK _<|by decide];exact t
 replace k:(L a (l 139)<|F<|l ⟨G,0,E⟩).tmps.getD 131 z=F (l ⟨G,0,E⟩):=by rw[iK _<|by decide];exact k
 replace o:(L a (l 139)<|F<|l ⟨G,0,E⟩).tmps.getD 132 z=F (l ⟨G,0,E⟩):=by rw[iK _<|by decide];exact o
 replace p:(L a (l 139)<|F<|l ⟨G,0,E⟩).tmps.getD 133 z=F (l ⟨G,0,E⟩):=by rw[iK _<|by decide];exact p
 replace I:(L a (l 139)<|F<|l ⟨G,0,E⟩).tmps.getD 134 z=F (l ⟨G,208,E⟩):=by rw[iK _<|by decide];exact I
 replace P:(L a (l 139)<|F<|l ⟨G,0,E⟩).tmps.getD 135 z=O R n f:=by rw[iK _<|by decide];exact P
 replace Q:(L a (l 139)<|F<|l ⟨G,0,E⟩).tmps.getD 136 z=M (jT r).toArray:=by rw[iK _<|by decide];exact Q
 replace T:(L a (l 139)<|F<|l ⟨G,0,E⟩).tmps.getD 137 z=O (l ⟨q0,0,E⟩) 1 1:=by rw[iK _<|by decide];exact T
 replace aa:(L a (l 139)<|F<|l ⟨G,0,E⟩).tmps.getD 138 z=O K (n+1) g:=by rw[iK _<|by decide];exact aa
 have aw:(L a (l 139)<|F<|l ⟨G,0,E⟩).tmps.getD 139 z=F (l ⟨G,0,E⟩):=m8 _ (by rw[kx]at e;rw[e];decide);generalize(L a (l 139)<|F<|l ⟨G,0,E⟩)=a at*;refine wpAnyH_take (i:=9) (oi:=opAt (opsL mB) 9) (by kernel_rfl) (by kernel_rfl) (by kernel_rfl) (by kernel_rfl) hq (BH (by kernel_rfl) λw _=>J9 _ w (x:=aq 139) (by kernel_rfl) G aw) ⟨mG,aL⟩ ?_;rw[d9];replace e:(L a (l 140)<|F<|l ⟨G,208,E⟩).tmps.size=152:=by rw[kx];exact e
 replace A:(L a (l 140)<|F<|l ⟨G,208,E⟩).defers=[]:=by rw[put_defers];exact A
 replace E1:(L a (l 140)<|F<|l ⟨G,208,E⟩).tmps.getD 1 z=F (l ⟨N,0,E⟩):=by rw[iK _<|by decide];exact E1
 replace E9:(L a (l 140)<|F<|l ⟨G,208,E⟩).tmps.getD 9 z=F (l ⟨G,0,E⟩):=by rw[iK _<|by decide];exact E9
 replace D:(L a (l 140)<|F<|l ⟨G,208,E⟩).tmps.getD 11 z=J H (i:Nat):=by rw[iK _<|by decide];exact D
 replace C:(L a (l 140)<|F<|l ⟨G,208,E⟩).tmps.getD 13 z=F (l ⟨R1,0,E⟩):=by rw[iK _<|by decide];exact C
 replace t:(L a (l 140)<|F<|l ⟨G,208,E⟩).tmps.getD 14 z=Z ab:=by rw[iK _<|by decide];exact t
 replace k:(L a (l 140)<|F<|l ⟨G,208,E⟩).tmps.getD 131 z=F (l ⟨G,0,E⟩):=by rw[iK _<|by decide];exact k
 replace o:(L a (l 140)<|F<|l ⟨G,208,E⟩).tmps.getD 132 z=F (l ⟨G,0,E⟩):=by rw[iK _<|by decide];exact o
 replace p:(L a (l 140)<|F<|l ⟨G,208,E⟩).tmps.getD 133 z=F (l ⟨G,0,E⟩):=by rw[iK _<|by decide];exact p
 replace I:(L a (l 140)<|F<|l ⟨G,208,E⟩).tmps.getD 134 z=F (l ⟨G,208,E⟩):=by rw[iK _<|by decide];exact I
 replace P:(L a (l 140)<|F<|l ⟨G,208,E⟩).tmps.getD 135 z=O R n f:=by rw[iK _<|by decide];exact P
 replace Q:(L a (l 140)<|F<|l ⟨G,208,E⟩).tmps.getD 136 z=M (jT r).toArray:=by rw[iK _<|by decide];exact Q
 replace T:(L a (l 140)<|F<|l ⟨G,208,E⟩).tmps.getD 137 z=O (l ⟨q0,0,E⟩) 1 1:=by rw[iK _<|by decide];exact T
 replace aa:(L a (l 140)<|F<|l ⟨G,208,E⟩).tmps.getD 138 z=O K (n+1) g:=by rw[iK _<|by decide];exact aa
 replace aw:(L a (l 140)<|F<|l ⟨G,208,E⟩).tmps.getD 139 z=F (l ⟨G,0,E⟩):=by rw[iK _<|by decide];exact aw
 have a1:(L a (l 140)<|F<|l ⟨G,208,E⟩).tmps.getD 140 z=F (l ⟨G,208,E⟩):=m8 _ (by rw[kx]at e;rw[e];decide);generalize(L a (l 140)<|F<|l ⟨G,208,E⟩)=a at*;refine wpAnyH_done (by kernel_rfl) ?_ _;refine yS a9 ?_;refine wpList_plain bi λ_ hK=>?_;refine QG (aeH _ w3 (x:=aq 140) (y:=aq 138) (by kernel_rfl) G 208 _ _ _ _ a1 aa mG fG)<|hK _ _ ?_;refine⟨rfl,⟨⟨?_,?_,?_,?_⟩,?_,?_⟩,_,w3,ap,⟨a7,ad⟩,rfl⟩;.rw[al];exact e
 .rw[al];exact A
 .rw[al];exact E1
 .rw[al];exact E9
 .rw[al];exact D
 .rw[al];exact t
end
def Oh(fs:Nat->Int):∀(n k:Nat),valOf (ly fs n) (lS fs n) k=lS fs n k|0,k=>rfl|n+1,k=>by have a:=Oh fs n k;by_cases h:fs (2*n)=k;(.have e1:ly fs (n+1) k=q:=if_pos h;unfold valOf;rw[if_pos e1]);.have e1:ly fs (n+1) k=ly fs n k:=if_neg h;have e2:lS fs (n+1) k=lS fs n k:=if_neg h;unfold valOf at a⊢;rw[e1,e2];exact a
def Ki(fs:Nat->Int):∀(n:Nat),(∀j,j<n->ji (fs<|2*j+1))->∀k,ly fs n k=q->ji (lS fs n k)|0,_,k,h=>by cases h|n+1,a,k,h=>by simp only[ly,lS]at h⊢;by_cases e:fs (2*n)=k;(.rw[if_pos e];exact a n<|by omega);.rw[if_neg e]at h⊢;exact Ki fs n (λj b=>a j<|by omega) k h
def ZY{t:iP}(T:pk t){s:Cells}(h:∀k,s.1 k=q->ji (s.2 k)):∀k,(pj t s).1 k=q->ji ((pj t s).2 k):=by
 unfold pj;split;.exact h
 .exact(py.run T t.nc ⟨λi _=>WalkArith.wf_i64 (n:=0)<|by omega,h,bh _,aF _,λc a=>by cases a⟩).Zs
def OW{D:iT}(T:∀i,i<D.nl->pk (D.ts i)){s:Cells}(h:∀k,s.1 k=q->ji (s.2 k)):∀i,i<=D.nl->∀k,(j5 D s i).1 k=q->ji ((j5 D s i).2 k)|0,_=>h|i+1,hi=>ZY (T i<|by omega) (OW T h i<|by omega)
noncomputable section
variable{e:Nat}{vB vL vS:U}{a b c:Int}{np:Nat}{hs:Nat->Bool}{v:Nat->Int}{vr va:U}
def S5{k:Nat}(hk:k<100)(g:j<210):(if j=8+k then Z q else kZ e vB vL vS a b c np hs v vr va j)=kZ e vB vL vS a b c np (λx=>if x=k then q else hs x) v vr va j:=by
 unfold kZ;by_cases f:j<8;.rw[if_pos f,if_pos f,if_neg<|by omega]
 .rw[if_neg f,if_neg f];by_cases d:j<208;(.rw[if_pos d,if_pos d];by_cases h:j<108;(.rw[sU _ _<|by omega,sU _ _<|by omega];by_cases e:j=8+k;(.rw[if_pos e,if_pos<|by omega]);.rw[if_neg e,if_neg<|by omega]);. (have:j-8=100+(j-108):=by omega);rw[this,rX _ _<|by omega,rX _ _<|by omega,if_neg<|by omega]);.rw[if_neg d,if_neg d,if_neg<|by omega]
def T8{k:Nat}{x:Int}(hk:k<100)(g:j<210):(if j=108+k then J H x else kZ e vB vL vS a b c np hs v vr va j)=kZ e vB vL vS a b c np hs (λy=>if y=k then x else v y) vr va j:=by
 unfold kZ;by_cases f:j<8;.rw[if_pos f,if_pos f,if_neg<|by omega]
 .rw[if_neg f,if_neg f];by_cases d:j<208;(.rw[if_pos d,if_pos d];by_cases h:j<108;(.rw[sU _ _<|by omega,sU _ _<|by omega,if_neg<|by omega]);. (have:j-8=100+(j-108):=by omega);rw[this,rX _ _<|by omega,rX _ _<|by omega];by_cases e:j=108+k;(.rw[if_pos e,if_pos<|by omega]);.rw[if_neg e,if_neg<|by omega]);.rw[if_neg d,if_neg d,if_neg<|by omega]
def Fg{d:Nat->Bool}{f:Nat->Int}(h:∀k,k<100->hs k=d k)(g:∀k,k<100->v k=f k)(m:j<210):kZ e vB vL vS a b c np hs v vr va j=kZ e vB vL vS a b c np d f vr va j:=by
 unfold kZ;split;.rfl
 .split;(.by_cases i:j<108;(.rw[sU _ _<|by omega,sU _ _<|by omega,h _<|by omega]);. (have:j-8=100+(j-108):=by omega);rw[this,rX _ _<|by omega,rX _ _<|by omega,g _<|by omega]);.rfl
def Wb{d:Nat->Bool}{i:Nat->Int}(f:X=kG d i)(m:j<210):(if 8<=j/\j<8+X.length then lc X (j-8)else kZ e vB vL vS a b c np hs v vr va j)=kZ e vB vL vS a b c np d i vr va j:=by
 have k:X.length=200:=by rw[f];exact tI _ _
 rw[k];unfold kZ;by_cases g:j<8;.rw[if_pos g,if_pos g,if_neg<|by omega]
 .rw[if_neg g,if_neg g];by_cases h:j<208;(.rw[if_pos<|show 8<=j/\j<8+200 by omega,if_pos h,f]);.rw[if_neg h,if_neg h,if_neg<|by omega]
def abQ(d:j<210):(if j=208 then A else kZ e vB vL vS a b c np hs v vr va j)=kZ e vB vL vS a b c np hs v A va j:=by
 unfold kZ;by_cases e:j=208;.subst e;rfl
 .simp only[e,if_false]
def agb(d:j<210):(if j=209 then A else kZ e vB vL vS a b c np hs v vr va j)=kZ e vB vL vS a b c np hs v vr A j:=by
 unfold kZ;by_cases e:j=209;.subst e;rfl
 .rw[if_neg e];split;(.rfl);.split;(.rfl);.split;(.rfl);.omega
end
def ou(d w:V)(G:Nat):Prop:=d.heap.size<=w.heap.size/\∀b,b<G->w.heap[b]?=d.heap[b]?
def ou.below{w w1:V}{G:Nat}(h:ou o w G)(g:G<=o.heap.size)(f:Below w.heap.size w w1):ou o w1 G:=⟨bD h.1 f.size,λb d=>by rw[f.block b<|by have:=h.1;omega];exact h.2 b d⟩
def ou.set{w:V}{G:Nat}(h:ou o w G)(f:Nat)(v:U):ou o (w.setCell ⟨G,f,E⟩ v) G:=⟨by have:=h.1;simpa using this,λb d=>by rw[aZ _ _ _ _<|show b≠G by omega];exact h.2 b d⟩
def ou.YL{w:V}{G:Nat}(h:ou o w G)(f:List U)(d:Nat):ou o (w.setCells G d f) G:=by induction f generalizing w d with|nil=>exact h|cons v f g=>exact g (h.set d v)<|d+1
def ou.cell{w:V}{G:Nat}(h:ou p w G){b o:Nat}(d:b<G){v:U}(f:p.cell? ⟨b,o,E⟩=l v):w.cell? ⟨b,o,E⟩=l v:=by rw[aV<|h.2 b d];exact f
noncomputable section
variable{N G:Nat}
def aap{a:Act}(h:kj N G a)(d:a.tmps.getD 10 z=J H (y:Nat))(w:V)(u:w.cell? ⟨N,5,E⟩=l (O n f j))(hi:y<f):Dj.wp W (λex s p=>ex=ae/\(kj N G s/\s.tmps.getD 10 z=J H (y:Nat))/\p=w) a w:=by
 obtain⟨o,t,k,m⟩:=h;obtain⟨g,rfl,r⟩:=pU a o t;rw[r]at k m d;rw[k,m,d];have i2:(y)<(f):=by omega
 unfold kj;simp only[Dj,uo,lP,nP,ak,ah,iA,iy,iL,ja];go_wp2
def adv{a:Act}(h:kj N G a)(d:a.tmps.getD 10 z=J H (y:Nat))(w:V)(u:w.cell? ⟨N,5,E⟩=l (O n f j))(hi:¬y<f):Dj.wp W (λex s p=>ex=.exit 0/\kj N G s/\p=w) a w:=by
 obtain⟨o,t,k,m⟩:=h;obtain⟨g,rfl,r⟩:=pU a o t;rw[r]at k m d;rw[k,m,d];have i2:¬(y)<(f):=by omega
 unfold kj;simp only[Dj,uo,lP,nP,ak,ah,iA,iy,iL,ja];go_wp2
def UT{a:Act}(h:kj N G a)(d:a.tmps.getD 10 z=J H (y:Nat))(hi:y<100)(w:V):Il.wp W (λex s o=>ex=ae/\(kj N G s/\s.tmps.getD 10 z=J H ((y+1:Nat):Int))/\o=w) a w:=by obtain⟨k,m,f,j⟩:=h;obtain⟨g,rfl,n⟩:=pU a k m;rw[n]at f j d;rw[f,j,d];unfold kj;simp only[Il,uo,lP,nP,ak,ah,iA,iy,iL,ja];go_wp2
def afS{a:Act}(h:kj N G a)(r:a.tmps.getD 10 z=J H (y:Nat))(w:V)(sb I A m k:Nat)(Q:w.cell? ⟨N,5,E⟩=l (O (l ⟨sb,I,E⟩) A m))(hi:y<A)(hk:k<100)(S:w.cell? ⟨sb,I+y*2,E⟩=l (J H (k:Nat)))(old:U)(Y:w.cell? ⟨G,8+k,E⟩=l old)(T:∀o,w.frozen? ⟨G,o,E⟩=au)(u:G<w.heap.size):BR.wp W (λex s x=>ex=ae/\(kj N G s/\s.tmps.getD 10 z=J H (y:Nat))/\∃w1,Below w.heap.size w w1/\x=w1.setCell ⟨G,8+k,E⟩ (Z q)) a w:=by
 obtain⟨P,h2,K,D⟩:=h;obtain⟨g,rfl,hg⟩:=pU a P h2;rw[hg]at K D r;rw[K,D,r];have i1:(0)<=(y):=by omega
 have i2:(y)<(A):=by omega
 have i3:(0)<=(k):=by omega
 have i4:(k)<100:=by omega
 unfold kj;rw[Z4];have f1:=cell_regrown Q;have f2:=cell_regrown S;have R:=cell_regrown Y;have ff:=B8 T u;refine z9 (n:=11) (tail:=[11]) (C:=λx=>∃p:Regrown,x=grow (redrawn w p.d) p.os) (by kernel_rfl) (zi (by kernel_rfl) _) (by decide) (by kernel_rfl) (by kernel_rfl) ⟨⟨w.drawn+1,#[]⟩,by rw[grow_empty];rfl⟩ ?_;simp only[jV,BR,uo,lP,nP,ak,ah,iA,iy,iL,ja,bO,bP,bQ,bR,bT,bU];repeat(go_big_quiet_step(fail))
 refine wpQuiet_nil ?_;intro _ B;obtain⟨⟨t,f⟩,j⟩:=B;subst j;have q4:=R t f;have q5:=ff t f;have X:=below_regrown w t f;generalize grow (redrawn w t) f=w1 at*;refine yS rfl ?_;go_wp2_with fail;exact⟨w1,X,rfl⟩
def Sl{a:Act}(h:kj N G a)(r:a.tmps.getD 10 z=J H (y:Nat))(w:V)(sb B I m k:Nat)(x:Int)(m5:w.cell? ⟨N,5,E⟩=l (O (l ⟨sb,B,E⟩) I m))(hi:y<I)(hk:k<100)(T:w.cell? ⟨sb,B+y*2,E⟩=l (J H (k:Nat)))(k1:w.cell? ⟨sb,B+y*2+1,E⟩=l (J H x))(old:U)(hr:w.cell? ⟨G,108+k,E⟩=l old)(Y:∀o,w.frozen? ⟨G,o,E⟩=au)(u:G<w.heap.size):BZ.wp W (λex s A=>ex=ae/\(kj N G s/\s.tmps.getD 10 z=J H (y:Nat))/\∃w1,Below w.heap.size w w1/\A=w1.setCell ⟨G,108+k,E⟩ (J H x)) a w:=by
 obtain⟨Q,h2,P,K⟩:=h;obtain⟨g,rfl,R⟩:=pU a Q h2;rw[R]at P K r;rw[P,K,r];have i1:(0)<=(y):=by omega
 have i2:(y)<(I):=by omega
 have i3:(0)<=(k):=by omega
 have i4:(k)<100:=by omega
 unfold kj;rw[afJ];have f1:=cell_regrown m5;have f2:=cell_regrown T;have f3:=cell_regrown k1;have S:=cell_regrown hr;have ff:=B8 Y u;refine z9 (n:=17) (tail:=[17]) (C:=λA=>∃p:Regrown,A=grow (redrawn w p.d) p.os) (by kernel_rfl) (zi (by kernel_rfl) _) (by decide) (by kernel_rfl) (by kernel_rfl) ⟨⟨w.drawn+1,#[]⟩,by rw[grow_empty];rfl⟩ ?_;simp only[jV,BZ,uo,lP,nP,ak,ah,iA,iy,iL,ja,bO,bP,bQ,bR,bT,bU];repeat(go_big_quiet_step(fail))
 refine wpQuiet_nil ?_;intro _ D;obtain⟨⟨t,f⟩,j⟩:=D;subst j;have q4:=S t f;have q5:=ff t f;have X:=below_regrown w t f;generalize grow (redrawn w t) f=w1 at*;refine yS rfl ?_;go_wp2_with fail;exact⟨w1,X,rfl⟩
def Xk{e:Nat}{vB vL vS:U}{T b' c':Int}{np:Nat}{vr va:U}{fs:Nat->Int}(aC:y<=40)(Y:∀j,j<y->0<=fs (2*j)/\fs (2*j)<=99)(ad:N<G)(aL:G<o.heap.size)(m5:o.cell? ⟨N,5,E⟩=l (O n y f))(hS:0<y->∃sb D,n=l ⟨sb,D,E⟩/\sb<G/\∀j,j<y*2->o.cell? ⟨sb,D+j,E⟩=l (J H<|fs j))(d:iJ o G 65 210<|kZ e vB vL vS T b' c' np (λ_=>au) (λ_=>0) vr va){a:Act}(B:kj N G a)(g:a.tmps.getD 10 z=J H ((0:Nat):Int)){Q:Exit->Act->V->Prop}(hQ:∀s w,kj N G s->ou o w G->iJ w G 65 210 (kZ e vB vL vS T b' c' np (ly fs y) (lS fs y) vr va)->Q ae s w):(aU 0<|aY uo).wp W Q a o:=by
 refine wp_block<|wp_loop (λs w=>∃i:Nat,i<=y/\kj N G s/\s.tmps.getD 10 z=J H (i)/\ou o w G/\iJ w G 65 210 (kZ e vB vL vS T b' c' np (ly fs i) (lS fs i) vr va)) (λs _=>y-(intOf<|s.tmps.getD 10 z).toNat) ⟨0,bh _,B,g,⟨aF _,λ_ _=>rfl⟩,d.congr λj P=>Fg (λ_ _=>rfl) (λ_ _=>rfl) P⟩ ?_;rintro s0 w⟨i,hi,B,g,t,d⟩;have al:=g;have u:=t.cell ad m5;by_cases A:i<y;.obtain⟨sb,D,rfl,C,m⟩:=hS (by omega);obtain⟨aw,aB⟩:=Y i A;obtain⟨k,hk⟩:∃k:Nat,fs (2*i)=k:=⟨(fs<|2*i).toNat,by omega⟩;(have p:k<100:=by omega);(have c0:w.cell? ⟨sb,D+i*2,E⟩=l (J H<|k):=by rw[t.cell C<|m (i*2)<|by omega,aG i 2,hk]);(have c1:w.cell? ⟨sb,D+i*2+1,E⟩=l (J H<|fs<|2*i+1):=by rw[aM,t.cell C<|m (i*2+1)<|by omega,aG i 2]);rw[ND];refine wp_seq<|iM (aap B g w u A) ?_;rintro ex s w0⟨rfl,⟨B,g⟩,ap⟩;rw[ap];refine wp_seq<|wp_block<|wp_seq<|iM (afS B g w sb D y f k u A p c0 _ (d.cell<|by omega) d.frozen d.lt) ?_;rintro ex s w2⟨rfl,⟨B,g⟩,w1,X,S⟩;(have r:ou o w2 G:=by rw[S];exact(t.below (by omega) X).set _ _);(have h:iJ w2 G 65 210<|kZ e vB vL vS T b' c' np (ly fs<|i+1) (lS fs i) vr va:=by rw[S];refine((d.below X).setCell (8+k)<|Z q).congr λj P=>?_;rw[S5 p P];refine Fg (λx hx=>?_) (λ_ _=>rfl) P;simp only[ly,hk];by_cases e:x=k;(.rw[if_pos e,if_pos<|by omega]);.rw[if_neg e,if_neg<|by omega]);have u:=r.cell ad m5;(have c0:w2.cell? ⟨sb,D+i*2,E⟩=l (J H<|k):=by rw[r.cell C<|m (i*2)<|by omega,aG i 2,hk]);(have c1:w2.cell? ⟨sb,D+i*2+1,E⟩=l (J H<|fs<|2*i+1):=by rw[aM,r.cell C<|m (i*2+1)<|by omega,aG i 2]);refine iM (Sl B g w2 sb D y f k (fs<|2*i+1) u A p c0 c1 _ (h.cell<|by omega) h.frozen h.lt) ?_;rintro ex s w3⟨rfl,⟨B,g⟩,w1,X,ac⟩;(have aa:ou o w3 G:=by rw[ac];exact(r.below (by omega) X).set _ _);(have R:iJ w3 G 65 210<|kZ e vB vL vS T b' c' np (ly fs<|i+1) (lS fs<|i+1) vr va:=by rw[ac];refine((h.below X).setCell (108+k)<|J H<|fs<|2*i+1).congr λj P=>?_;rw[T8 p P];refine Fg (λ_ _=>rfl) (λx hx=>?_) P;simp only[lS,hk];by_cases e:x=k;(.rw[if_pos e,if_pos<|by omega]);.rw[if_neg e,if_neg<|by omega]);refine iM (UT B g (by omega) w3) ?_;rintro ex s' w5⟨rfl,⟨K,I⟩,av⟩;rw[av];refine⟨⟨i+1,by omega,K,I,aa,R⟩,?_⟩;rw[I,al];simp only[intOf];omega
 . (obtain rfl:i=y:=by omega);rw[ND];refine wp_seq<|iM (adv B g w u A) ?_;rintro ex s' w'⟨rfl,K,am⟩;rw[am];exact hQ s' w K t d
end
def uR(D:iT)(s0:Cells)(n:Nat):List U:=(aD n).flatMap λj=>jT (na (D.ts j)<|j5 D s0 j).r
def uN(D:iT)(s0:Cells)(n:Nat):List U:=(aD n).map λj=>Z (na (D.ts j)<|j5 D s0 j).ab
def Cr(D:iT)(s0:Cells)(n:Nat):uR D s0 (n+1)=uR D s0 n++jT (na (D.ts n)<|j5 D s0 n).r:=by simp[uR,bV]
def aeF(D:iT)(s0:Cells)(n:Nat):uN D s0 (n+1)=uN D s0 n++[Z (na (D.ts n)<|j5 D s0 n).ab]:=by simp[uN,bV]
def vf{w w':V}{base:Nat}{e:TypeId}{n:Nat}(h:w.ownsRow base e y A n X)(d:∀g,l g=A.ownBlock->w'.heap[g]?=w.heap[g]?):w'.ownsRow base e y A n X:=by
 rcases h.2 with c|⟨g,cap,a,e1,e2,e3,b⟩;.exact⟨h.1,.inl c⟩
 .exact⟨h.1,.inr ⟨g,cap,a,e1,e2,by rw[d g<|by rw[e1];rfl];exact e3,b⟩⟩
def oI{w:V}{base:Nat}{e:TypeId}{n:Nat}(h:w.ownsRow base e y A n X){g:Nat}(a:l g=A.ownBlock):base<=g/\g<w.heap.size/\mX w g e:=by
 rcases h.2 with⟨rfl,_⟩|⟨d,cap,b,e1,e2,e3,c⟩;.cases a
 .rw[e1]at a;cases a;exact⟨e2,(Array.getElem?_eq_some_iff.1 e3).1,_,_,e3⟩
noncomputable section
variable{N G:Nat}
def Xc{a:Act}(h:kj N G a)(b:a.tmps.getD 11 z=J H (y:Nat))(w:V){nl:Nat}(o:w.cell? ⟨N,4,E⟩=l (O n nl f))(hi:y<nl):Dl.wp W (λex s k=>ex=ae/\(kj N G s/\s.tmps.getD 11 z=J H (y:Nat))/\k=w) a w:=by
 obtain⟨m,e,c,d⟩:=h;obtain⟨g,rfl,j⟩:=pU a m e;rw[j]at c d b;rw[c,d,b];have i2:(y)<(nl):=by omega
 unfold kj;simp only[Dl,sk,lP,nP,ak,ah,iA,iy,iL,ja];go_wp2
def RQ{a:Act}(h:kj N G a)(b:a.tmps.getD 11 z=J H (y:Nat))(w:V){nl:Nat}(o:w.cell? ⟨N,4,E⟩=l (O n nl f))(hi:¬y<nl):Dl.wp W (λex s k=>ex=.exit 2/\kj N G s/\k=w) a w:=by
 obtain⟨m,e,c,d⟩:=h;obtain⟨g,rfl,j⟩:=pU a m e;rw[j]at c d b;rw[c,d,b];have i2:¬(y)<(nl):=by omega
 unfold kj;simp only[Dl,sk,lP,nP,ak,ah,iA,iy,iL,ja];go_wp2
def Xm{a:Act}(h:kj N G a)(b:a.tmps.getD 11 z=J H (y:Nat))(hi:y<100)(w:V):Gf.wp W (λex s k=>ex=ae/\(kj N G s/\s.tmps.getD 11 z=J H ((y+1:Nat):Int))/\k=w) a w:=by obtain⟨e,f,c,d⟩:=h;obtain⟨g,rfl,j⟩:=pU a e f;rw[j]at c d b;rw[c,d,b];unfold kj;simp only[Gf,sk,lP,nP,ak,ah,iA,iy,iL,ja];go_wp2
def Zu{a:Act}(h:kj N G a)(d:a.tmps.getD 11 z=J H (y:Nat))(w:V)(n p:Nat)(ab:Bool)(e:a.tmps.getD 12 z=F (l ⟨n,0,E⟩))(c:a.tmps.getD 13 z=F (l ⟨p,0,E⟩))(f:a.tmps.getD 14 z=Z ab)(b:List U)(m:b.length=200)(k:b.toArray.all (·.oneCell')=q)(B:w.rangeAt n 0 b)(o:w.there G 8 200):IA.wp W (λex s R=>ex=ae/\(kj N G s/\s.tmps.getD 11 z=J H (y:Nat)/\s.tmps.getD 13 z=F (l ⟨p,0,E⟩)/\s.tmps.getD 14 z=Z ab)/\R=w.setCells G 8 b) a w:=by
 obtain⟨I,Q,t,u⟩:=h;obtain⟨g,rfl,D⟩:=pU a I Q;rw[D]at t u d e c f;rw[t,u,d,e,c,f];have x:(storeCells ⟨G,8,E⟩ b).run W w=.ok () (w.setCells G 8 b):=by have:=run_storeCells_cells (P:=W) G 8 b 0 w (λj A=>(o j<|by omega).1) (λj A=>(o j<|by omega).2) λv C=>(Array.all_eq_true_iff_forall_mem.1 k) v (by simpa using C);simpa using this
 unfold kj;simp only[IA,sk,lP,nP,ak,ah,iA,iy,iL,ja];refine wp_region_lit ?_;go_wp2_with fail;rename_i K r;refine wp_load_mid 61 (aq 12) ?_ n 0 ?_ b _ B bn rfl (by rw[m];exact wQ) ?_;.rfl
 .rfl
 refine r _ _ ?_;clear r K;go_wp2_with fail
def VA{a:Act}(h:kj N G a)(v:a.tmps.getD 11 z=J H (y:Nat))(w:V)(ab:Bool)(t:a.tmps.getD 14 z=Z ab)(B n:Nat)(D:U)(xs:List U)(m:w.cell? ⟨G,209,E⟩=l D)(hf:w.frozen? ⟨G,209,E⟩=au)(A:l G≠D.ownBlock)(ac:B<=w.heap.size)(hn:n<=100)(k:w.ownsRow B 4 1 D n xs):Jq.wp W (λex s w'=>ex=ae/\(kj N G s/\s.tmps.getD 11 z=J H (y:Nat))/\∃(I:U)(w1:V),w1.ownsRow B 4 1 I (n+1) (xs++[Z ab])/\(w.heap.size<=w1.heap.size/\∀b,b<w.heap.size->l b≠D.ownBlock->w1.heap[b]?=w.heap[b]?)/\w'=w1.setCell ⟨G,209,E⟩ I) a w:=by
 obtain⟨C,h2,h3,X⟩:=h;obtain⟨g,rfl,hg⟩:=pU a C h2;rw[hg]at h3 X v t;rw[h3,X,v,t];obtain⟨i0,hi,R,S,P⟩:=info_parts Tryz.ZM;obtain⟨Y,f,rfl⟩:=qR k;have o:=xZ k<|(aQ w.heap.size w).alloc (aF _)<|ai #[Z ab] 4;have x:=bl _ _ m;have p:∀j u,[Z ab][j]?=l u->(w.alloc<|ai #[Z ab] 4).cell? ((⟨w.heap.size,0,E⟩:ax).add j)=l u:=by intro j u hj;have r:=km w [Z ab] 4;obtain⟨C,h2⟩:=bC.1 hj;simp at C;subst C;rw[nT,r.cell<|by simp];exact hj
 unfold kj;simp only[Jq,sk,lP,nP,ak,ah,iA,iy,iL,ja];go_wp2_with(at_builtin;refine wpList_append_own _ rfl _ _ 63 rfl B 4 i0 (Z au) 1 1 Tryz.underlying63 hi R S P rfl (by decide) _ _ _ rfl o ⟨w.heap.size,0,E⟩ 1 1 [Z ab] rfl (by simp) p (by simp[aX]) (by unfold maxLen;omega) (by omega) (by simp;omega) ?_;intro I w1 d c aa;refine VJ ?_);obtain⟨ad,K,rfl⟩:=qR d;have e:∀b,b<w.heap.size->l b≠(O Y n f).ownBlock->w1.heap[b]?=w.heap[b]?:=λb hb Q=>by rw[c.block b (by simp;omega) Q,bu _ _ _ hb]
 have T:w.heap.size<=w1.heap.size:=by have:=c.size;simp at this;omega
 have mG:w1.cell? ⟨G,209,E⟩=l (O Y n f):=by rw[aV<|e G x A];exact m
 have fG:w1.frozen? ⟨G,209,E⟩=au:=by rw[bN<|e G x A];exact hf
 unfold Stop;go_wp2_with(fail);exact⟨_,w1,d,⟨T,e⟩,rfl⟩
def IN(w:V)(G e:Nat)(h j g:U)(a b c:Int)(D:iT)(s0:Cells)(i:Nat):Prop:=∃d f,iJ w G 65 210 (kZ e h j g a b c (D.nb+1) (j5 D s0 i).1 (valOf (j5 D s0 i).1 (j5 D s0 i).2) d f)/\w.ownsRow (G+1) 73 4 d i (uR D s0 i)/\w.ownsRow (G+1) 4 1 f i (uN D s0 i)
def VW{e:Nat}{a' b' c':Int}{D:iT}{s0:Cells}(cm:D.nl<=24)(T:∀i,i<D.nl->pk (D.ts i))(bv:∀k,s0.1 k=q->ji (s0.2 k))(cf:N<G)(ck:G<o.heap.size)(m4:o.cell? ⟨N,4,E⟩=l (O n D.nl y))(hL:0<D.nl->∃lb lo,n=l ⟨lb,lo,E⟩/\lb<G/\∃vs:Nat->U,(∀j,j<D.nl*4->o.cell? ⟨lb,lo+j,E⟩=l (vs j))/\∀i,i<D.nl->∀w,ou o w G->lE w (vs<|i*4) (vs<|i*4+1) (vs<|i*4+2) (vs<|i*4+3) (D.ts i))(bc:ou o p G)(v:iJ p G 65 210<|kZ e A K C a' b' c' (D.nb+1) s0.1 (valOf s0.1 s0.2) (O E 0 0)<|O E 0 0){a:Act}(X:kj N G a)(c:a.tmps.getD 11 z=J H ((0:Nat):Int)){Q:Exit->Act->V->Prop}(hQ:∀s w,kj N G s->ou o w G->IN w G e A K C a' b' c' D s0 D.nl->Q ae s w):(aU 2<|aY sk).wp W Q a p:=by
 refine wp_block<|wp_loop (λs w=>∃i:Nat,i<=D.nl/\kj N G s/\s.tmps.getD 11 z=J H (i:Nat)/\ou o w G/\IN w G e A K C a' b' c' D s0 i) (λs _=>D.nl-(intOf<|s.tmps.getD 11 z).toNat) ⟨0,bh _,X,c,bc,_,_,v,⟨rfl,.inl ⟨rfl,rfl⟩⟩,⟨rfl,.inl ⟨rfl,rfl⟩⟩⟩ ?_;rintro cl w⟨i,hi,X,c,B,a0⟩;have ca:=c;have a7:=B.cell cf m4;by_cases ad:i<D.nl;.obtain⟨lb,lo,rfl,aC,vs,x,hT⟩:=hL (by omega);obtain⟨vr,va,v,a6,bf⟩:=a0;have cb:=hT i ad;have c0:=B.cell aC<|x (i*4) (by omega);(have c1:w.cell? ⟨lb,lo+i*4+1,E⟩=l (vs<|i*4+1):=by rw[aM];exact B.cell aC<|x (i*4+1) (by omega));(have c2:w.cell? ⟨lb,lo+i*4+2,E⟩=l (vs<|i*4+2):=by rw[aM];exact B.cell aC<|x (i*4+2) (by omega));(have c3:w.cell? ⟨lb,lo+i*4+3,E⟩=l (vs<|i*4+3):=by rw[aM];exact B.cell aC<|x (i*4+3) (by omega));have bx:=OW T bv i (by omega);rw[Kj];refine wp_seq<|iM (Xc X c w a7 ad) ?_;rintro ex s w0⟨rfl,⟨X,c⟩,bX⟩;rw[bX];have br:j5 D s0 (i+1)=pj (D.ts i) (j5 D s0 i):=rfl;generalize ba:j5 D s0 i=I at*;(have aB:w.rangeAt G 8<|kG I.1<|valOf I.1 I.2:=by intro j u hj;obtain⟨h1,h2⟩:=bC.1 hj;rw[tI]at h1;rw[v.cell<|by omega];unfold kZ;rw[if_neg<|by omega,if_pos<|by omega,Nat.add_sub_cancel_left];unfold lc;grind);refine wp_seq<|wp_block<|wp_seq<|iM (RE w s N G i X c lb lo D.nl y a7 ad _ _ _ _ c0 c1 c2 c3 (kG I.1<|valOf I.1 I.2) (kG (pj (D.ts i) I).1<|valOf (pj (D.ts i) I).1 (pj (D.ts i) I).2) (jT (na (D.ts i) I).r) (na (D.ts i) I).ab (tI _ _) (tI _ _) rfl (all_oneCell_toArray<|CC _ _) (by simp[jT,aX]) aB λw1 hb=>Rs (T i ad) _ _ _ _ w1 (cb w1<|B.below (by omega) hb) I.1 I.2 bx) ?_;rintro ex s w1⟨rfl,⟨X,c⟩,D1,R1,⟨cc,a8,ac⟩,co,cj,rD,rR,hb⟩;have bt:=B.below (by omega) hb;have R:=v.below hb;have a2:=vf a6 λg P=>hb.block g (oI a6 P).2.1;have aT:=vf bf λg P=>hb.block g (oI bf P).2.1;(have bY:l R1≠vr.ownBlock:=λh=>by have:=(oI a6 h).2.1;omega);(have cn:D1≠G:=by have:=v.lt;omega);(have b9:R1≠G:=by have:=v.lt;omega);have ce:w1.there G 8 200:=λj hj=>⟨by rw[R.cell<|by omega];rfl,R.frozen _⟩;have b8:=yY rD<|tI _ _;refine wp_seq<|iM (Zu X c w1 D1 R1 _ cc a8 ac _ (tI _ _) (all_oneCell_toArray<|CC _ _) b8 ce) ?_;rintro ex s w2⟨rfl,⟨X,c,a8,ac⟩,am⟩;(have a1:ou o w2 G:=by rw[am];exact bt.YL _ _);(have t:iJ w2 G 65 210<|kZ e A K C a' b' c' (D.nb+1) (j5 D s0<|i+1).1 (valOf (j5 D s0<|i+1).1 (j5 D s0<|i+1).2) vr va:=by rw[am,br];exact(DZ _ 8 w1 _ R).congr λj hj=>Wb rfl hj);(have S:=vf a2 (w':=w2) λg P=>by rw[am];exact A9 _ _ _ (by have:=(oI a2 P).1;omega));(have Y:=vf aT (w':=w2) λg P=>by rw[am];exact A9 _ _ _ (by have:=(oI aT P).1;omega));(have ci:w2.rangeAt R1 0<|jT (na (D.ts i) I).r:=by rw[am];exact yY (yP rR b9 _ _) rfl);(have bi:l G≠vr.ownBlock:=λh=>by have:=(oI S h).1;omega);(have be:l G≠va.ownBlock:=λh=>by have:=(oI Y h).1;omega);refine wp_seq<|iM (QH w2 N G i s R1 (G+1) i _ vr _ (na (D.ts i) I).r X c a8 ac (t.cell<|by omega) (t.frozen _) bi ci bY (by have:=t.lt;omega) (by omega) S) ?_;rintro ex s w3⟨rfl,⟨X,c,ac⟩,aw,w5,m,⟨aa,d⟩,av⟩;have a3:=t.lt;(have aO:ou o w3 G:=by rw[av];exact ou.set ⟨bD a1.1 aa,λb hb=>by rw[d b (by omega) λh=>by have:=(oI S h).1;omega];exact a1.2 b hb⟩ _ _);(have f:iJ w3 G 65 210<|kZ e A K C a' b' c' (D.nb+1) (j5 D s0<|i+1).1 (valOf (j5 D s0<|i+1).1 (j5 D s0<|i+1).2) aw va:=by rw[av];exact((t.block<|d G a3 bi).setCell 208 aw).congr λj hj=>abQ hj);(have aR:=vf m (w':=w3) λg P=>by rw[av];exact aZ _ _ _ _ (by show g≠G;have:=(oI m P).1;omega));(have al:=vf Y (w':=w3) λg P=>by have h1:=oI Y P;rw[av,aZ _ _ _ _<|by grind];exact d g h1.2.1 λh=>(h1.2.2.ne (oI S h).2.2<|by decide) rfl);refine iM (VA X c w3 _ ac (G+1) i va _ (f.cell (j:=209)<|by omega) (f.frozen _) be (by have:=f.lt;omega) (by omega) al) ?_;rintro ex s w6⟨rfl,⟨X,c⟩,a5,w5,m,⟨aa,d⟩,ap⟩;have a3:=f.lt;(have bp:ou o w6 G:=by rw[ap];exact ou.set ⟨bD aO.1 aa,λb hb=>by rw[d b (by omega) λh=>by have:=(oI al h).1;omega];exact aO.2 b hb⟩ _ _);(have a9:iJ w6 G 65 210<|kZ e A K C a' b' c' (D.nb+1) (j5 D s0<|i+1).1 (valOf (j5 D s0<|i+1).1 (j5 D s0<|i+1).2) aw a5:=by rw[ap];exact((f.block<|d G a3 be).setCell 209 a5).congr λj hj=>agb hj);(have bb:=vf m (w':=w6) λg P=>by rw[ap];exact aZ _ _ _ _ (by show g≠G;have:=(oI m P).1;omega));(have bo:=vf aR (w':=w6) λg P=>by have h1:=oI aR P;rw[ap,aZ _ _ _ _<|by grind];exact d g h1.2.1 λh=>(h1.2.2.ne (oI al h).2.2<|by decide) rfl);refine iM (Xm X c (by omega) w6) ?_;rintro ex s' w7⟨rfl,⟨a4,aS⟩,cg⟩;rw[cg];refine⟨⟨i+1,by omega,a4,aS,bp,aw,a5,a9,?_,?_⟩,?_⟩;(.rw[Cr,ba];exact bo);(.rw[aeF,ba];exact bb);.rw[aS,ca];simp only[intOf];omega
 . (obtain rfl:i=D.nl:=by omega);rw[Kj];refine wp_seq<|iM (RQ X c w a7 ad) ?_;rintro ex s' w'⟨rfl,a4,cd⟩;rw[cd];exact hQ s' w a4 B a0
end
end
end Go.Proofs.YtldeiiffabfmeaaGreatDoor
