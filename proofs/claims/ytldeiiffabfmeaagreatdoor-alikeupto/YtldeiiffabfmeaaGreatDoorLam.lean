/- - -/
import Derived.Test.YtldeiiffabfmeaaGreatDoorAom
set_option linter.all false
set_option maxRecDepth 100000
set_option maxHeartbeats 4000000
open Go renaming undef->F,Value->X,World->u,Code->m,Addr->ao,Oper->ax,Calls->aM
open Go.Value renaming int->J,slice->T,pointer->Q,bool->aj,agg->ay,tuple->aF
open Go.IntKind renaming i64->U,wrap_i64->aK
open Option renaming some->V,none->W,getD_some->o
open Go.Proofs.Tryz renaming prog->Y,f10->C
open Bool renaming true->Z,false->au
open Go.Exit renaming normal->ae,exit->aG
open Or renaming inl->ah,inr->ak
open Go.Code renaming seq->ai,block->an,loop->ar,region->aD
open Nat renaming le_refl->aq,lt_of_lt_of_le->az,zero_le->aA,le_trans->aN,lt_succ_of_le->aV,mul_le_mul->aX
open List renaming take->aE,mem_filter->aH,mem_of_getElem?->aI,mem_map->aJ,getElem?_of_mem->aP,mem_cons->aQ,getElem?_cons_zero->aU,drop->aW
variable{v:Go.Act}{x y a b d g:Nat}{h i:u}
namespace Go.Proofs.YtldeiiffabfmeaaGreatDoor
section
open Go.RowKit
def iD.drewN{S:Nat->Prop}{w a:u}(h:iD S w a)(n:Nat):iD S w<|a.drewN n:=⟨h.size,h.block⟩
end
section
def zA(c:iB)(E:iE)(p q:Nat):jI c E p 1 q=mF E p (lL c p<|E.part p):=rfl
def yM(c:iB)(E:iE)(p q:Nat):jI c E p 2 q=mF E p (lK c p<|E.part p):=rfl
def tL(c:iB)(E:iE)(p q:Nat):jI c E p 4 q=if q<=c.D.nb/\p≠q then mF E p (kX q<|E.part p)else W:=rfl
def tO(P:Part)(i:Nat):Prop:=(∃e∈P.opn,e.iz=i/\e.read=Z)\/jh P i=Z
def og(P:Part)(q i:Nat):Prop:=(∃e∈P.opn,e.iz=i/\e.iF q=Z)\/jh P i=Z
def xG(P:Part)(i q:Nat):Prop:=uT P i q=Z\/jh P i=Z
structure jo(P P':Part):Prop where
 dn:∀i,jh P i=true->jh P' i=true
 up:P.up<=P'.up
 rd:∀i,tO P i->tO P' i
 sn:∀q i,og P q i->og P' q i
 gt:∀i q,xG P i q->xG P' i q
def jo.refl(P:Part):jo P P:=⟨λ_ h=>h,aq _,λ_ h=>h,λ_ _ h=>h,λ_ _ h=>h⟩
def jo.trans{P a R:Part}(h:jo P a)(g:jo a R):jo P R:=⟨λi x=>g.dn i<|h.dn i x,aN h.up g.up,λi x=>g.rd i<|h.rd i x,λq i x=>g.sn q i<|h.sn q i x,λi q x=>g.gt i q<|h.gt i q x⟩
def jo.Bs{c:iB}{P g:Part}(e:lL c x P=V g):jo P g:=by
 unfold lL at e;split at e;case isFalse=>cases e
 rename_i j;injection e with e;subst e;obtain⟨n1,n,k,l⟩:=ui c.D x (P.up+1) j.1;have dn:∀i,jh P i=Z->jh {P with opn:=P.opn++[pD P.up],up:=pw c.D x<|P.up+1} i=Z:=by intro i hd;obtain⟨a,b⟩:=mg.1 hd;rw[mg];refine⟨by grind,?_⟩;(have:P.up≠i:=by omega);simp only[lX,List.any_append,List.any_cons,List.any_nil,Bool.or_false,Bool.or_eq_false_iff,pD];exact⟨b,by simpa using this⟩
 refine⟨dn,by grind,λi h=>?_,λq i h=>?_,λi q h=>?_⟩;.rcases h with⟨d,f,h⟩|h;(.exact ah ⟨d,by simp[f],h⟩);.exact ak<|dn i h
 .rcases h with⟨d,f,h⟩|h;(.exact ah ⟨d,by simp[f],h⟩);.exact ak<|dn i h
 .rcases h with h|h;(.exact ah h);.exact ak<|dn i h
def C1{l:List iG}{f:iG->iG}{e:iG}(i:Nat)(h:e∈l):e∈l.modify i f\/f e∈l.modify i f:=by
 obtain⟨j,b⟩:=aP h;by_cases a:i=j;.right;refine aI (i:=j) ?_;grind
 .left;refine aI (i:=j) ?_;grind
def jo.modify{P:Part}(i:Nat){f:iG->iG}(d:∀e,(f e).iz=e.iz)(l:∀e,e.read=Z->(f e).read=Z)(k:∀e q,e.iF q=Z->(f e).iF q=Z):jo P {P with opn:=P.opn.modify i f}:=by
 have dn:=AU P (P.opn.modify i f)<|A7 P.opn i f d;refine⟨λj h=>by rw[dn];exact h,aq _,λj h=>?_,λq j h=>?_,λj q h=>?_⟩;.rcases h with⟨x,g,c,b⟩|h;(.rcases C1 i g with a|a;(.exact ah ⟨x,a,c,b⟩);.exact ah ⟨f x,a,by rw[d];exact c,l x b⟩);.exact ak<|by rw[dn];exact h
 .rcases h with⟨x,g,c,b⟩|h;(.rcases C1 i g with a|a;(.exact ah ⟨x,a,c,b⟩);.exact ah ⟨f x,a,by rw[d];exact c,k x q b⟩);.exact ak<|by rw[dn];exact h
 .rcases h with h|h;(.exact ah h);.exact ak<|by rw[dn];exact h
def jo.Cv{c:iB}{P a:Part}(e:lK c x P=V a):jo P a:=by
 unfold lK at e;split at e;case isFalse=>cases e
 injection e with e;subst e;exact jo.modify _ (λ_=>rfl) (λ_ _=>rfl) λ_ _ h=>h
def jo.iF(q i:Nat)(P:Part):jo P<|mP q i P:=jo.modify _ (λ_=>rfl) (λ_ h=>h) λe r h=>by show upd e.iF q Z r=Z;unfold upd;grind
def jo.join(p:Nat)(x:jw)(P:Part):jo P<|mW p x P:=⟨λ_ h=>h,aq _,λ_ h=>h,λ_ _ h=>h,λ_ _ h=>h⟩
def jo.Bz{q:Nat}{P a:Part}(e:kX q P=V a):jo P a:=by
 unfold kX at e;split at e;.cases e
 injection e with e;subst e;refine⟨λ_ h=>h,aq _,λ_ h=>h,λ_ _ h=>h,λi q h=>?_⟩;rcases h with h|h;.obtain⟨y,d,c,b⟩:=qY.1 h;exact ah<|qY.2 ⟨y,by simp[d],c,b⟩
 .exact ak h
def jo.done(D:iT)(p i:Nat)(l:jc)(P:Part)(hi:i<P.up):jo P<|pF D p i l P:=by
 have dn:∀j,(jh P j=Z\/j=i)->jh (pF D p i l P) j=Z:=by intro j h;rw[mg];show j<P.up/\lX (P.opn.filter λs=>!(s.iz==i)) j=au;rcases h with h|rfl;(.obtain⟨a,b⟩:=mg.1 h;refine⟨a,uZ λx d f=>?_⟩;have:=ve.2 ⟨x,(aH.1 d).1,f⟩;grind);.exact⟨hi,uZ λx d=>by grind⟩
 refine⟨λj h=>dn j<|ah h,aq _,λj h=>?_,λq j h=>?_,λj q h=>?_⟩;.by_cases c:j=i;(.exact ak<|dn j<|ak c);.rcases h with⟨x,d,e,g⟩|h;(.exact ah ⟨x,aH.2 ⟨d,by simp[e,c]⟩,e,g⟩);.exact ak<|dn j<|ah h
 .by_cases c:j=i;(.exact ak<|dn j<|ak c);.rcases h with⟨x,d,e,g⟩|h;(.exact ah ⟨x,aH.2 ⟨d,by simp[e,c]⟩,e,g⟩);.exact ak<|dn j<|ah h
 .by_cases c:j=i;(.exact ak<|dn j<|ak c);.rcases h with h|h;(.obtain⟨y,r,k,n⟩:=qY.1 h;exact ah<|qY.2 ⟨y,aH.2 ⟨r,by simp[k,c]⟩,k,n⟩);.exact ak<|dn j<|ah h
def yU{D:iT}{p:Nat}:∀(l:List<|Nat×jc)(E:iE),(∀x∈l,x.1<(E.part p).up)->(∀r,jo (E.part r)<|(l.foldl (kS D p) E).part r)/\(∀r,((l.foldl (kS D p) E).part r).iU=(E.part r).iU)/\((∃x∈l,True)->∀x∈l,jh ((l.foldl (kS D p) E).part p) x.1=Z)|[],E,_=>⟨λr=>jo.refl _,λr=>rfl,λ_ x i=>by cases i⟩|x::l,E,h=>by simp only[List.foldl];have b:(kS D p E x).part p=pF D p x.1 x.2 (E.part p):=upd_same _ _ _;have c:∀r,r≠p->(kS D p E x).part r=E.part r:=λr c=>jq _ _ c;obtain⟨d,k,g⟩:=yU l (kS D p E x) (λy a=>by rw[b];exact h y<|by simp[a]);(have j:∀r,jo (E.part r)<|(kS D p E x).part r:=by intro r;by_cases e:r=p;(.subst e;rw[b];exact jo.done _ _ _ _ _<|h x<|by simp);.rw[c r e];exact jo.refl _);refine⟨λr=>(j r).trans<|d r,λr=>?_,λ_ y a=>?_⟩;(.rw[k r];by_cases e:r=p;(.subst e;rw[b];rfl);.rw[c r e]);.rcases aQ.1 a with rfl|a;(.refine(d p).dn _ ?_;rw[b,mg];refine⟨h y<|by simp,uZ λz f=>by simpa using(aH.1 f).2⟩);.exact g ⟨y,a,trivial⟩ y a
def xI(c:iB)(E a:iE)(x:Nat×Nat×Nat):Prop:=∀r q,(a.part r).iU q=(E.part r).iU q\/(∃y l,(E.part r).iU q=y::l/\(a.part r).iU q=l/\y∈(a.part r).taken)\/(∃y,(a.part r).iU q=(E.part r).iU q++[y]/\x=(q,3,r))
def ku(c:iB)(x:Nat×Nat×Nat):Prop:=x.1<=c.D.nb/\x.2.2<=c.D.nb/\1<=x.2.1/\x.2.1<=5
def xj{E:iE}{P:Part}(h:jo (E.part x) P):∀r,jo (E.part r)<|upd E.part x P r:=by
 intro r;by_cases e:r=x;.subst e;rw[upd_same];exact h
 .rw[jq _ _ e];exact jo.refl _
def zP{E:iE}{P:Part}(h:P.iU=(E.part x).iU):∀r,(upd E.part x P r).iU=(E.part r).iU:=by
 intro r;by_cases e:r=x;.subst e;rw[upd_same];exact h
 .rw[jq _ _ e]
def qi{c:iB}(H:jg c){s0:Cells}{E:iE}(A:mo c s0 E){x:Nat×Nat×Nat}(z:ku c x):(∀r,jo (E.part r)<|(iZ c E x).part r)/\xI c E (iZ c E x) x:=by
 obtain⟨p,k,q⟩:=x;obtain⟨s,g,j,n⟩:=z;simp only at s g j n;have i:=A.part p s;have W:jI c E p k q=W->(∀r,jo (E.part r)<|(iZ c E (p,k,q)).part r)/\xI c E (iZ c E (p,k,q)) (p,k,q):=by intro h;(have:iZ c E (p,k,q)=E:=by simp[iZ,h]);rw[this];exact⟨λr=>jo.refl _,λr q=>ah rfl⟩
 have V:∀{f},jI c E p k q=V f->(∀r,jo (E.part r)<|f.part r)->xI c E f (p,k,q)->(∀r,jo (E.part r)<|(iZ c E (p,k,q)).part r)/\xI c E (iZ c E (p,k,q)) (p,k,q):=by intro f h v t;(have:iZ c E (p,k,q)=f:=by simp[iZ,h]);grind
 rcases(show k=1\/k=2\/k=3\/k=4\/k=5 by omega)with rfl|rfl|rfl|rfl|rfl;.cases a:lL c p (E.part p)with|none=>exact W (by rw[zA,a];rfl)|some P=>refine V (by rw[zA,a];rfl) (xj<|jo.Bs a) λr d=>ah ?_;unfold lL at a;split at a;(case isFalse=>cases a);injection a with a;show(upd E.part p P r).iU d=_;rw[zP<|by rw[<-a]]
 .cases a:lK c p (E.part p)with|none=>exact W (by rw[yM,a];rfl)|some P=>refine V (by rw[yM,a];rfl) (xj<|jo.Cv a) λr d=>ah ?_;unfold lK at a;split at a;(case isFalse=>cases a);injection a with a;show(upd E.part p P r).iU d=_;rw[zP<|by rw[<-a]]
 .by_cases b:p≠q;(case neg=>exact W (by rw[xy,if_neg<|by omega]));cases a:n7 c p q E with|none=>exact W (by rw[xy,if_pos ⟨g,b⟩,a])|some f=>refine V (by rw[xy,if_pos ⟨g,b⟩,a]) ?_ ?_;(.unfold n7 at a;split at a;(case isFalse=>cases a);injection a with a;subst a;intro r;by_cases e1:r=q;(.subst e1;simp only[upd_same];exact jo.join _ _ _);.simp only[jq _ _ e1];exact xj (jo.iF _ _ _) r);.unfold n7 at a;split at a;(case isFalse=>cases a);injection a with a;subst a;intro r d;by_cases e1:r=q;(.subst e1;simp only[upd_same,mW];by_cases e2:d=p;(.subst e2;simp only[upd_same];simp);.left;simp only[jq _ _ e2]);.left;simp only[jq _ _ e1];rw[zP (P:=mP q (lM c.D q (E.part p).opn)<|E.part p) rfl]
 .by_cases b:p≠q;(case neg=>exact W (by rw[tL,if_neg<|by omega]));cases a:kX q (E.part p)with|none=>exact W (by rw[tL,if_pos ⟨g,b⟩,a];rfl)|some P=>refine V (by rw[tL,if_pos ⟨g,b⟩,a];rfl) (xj<|jo.Bz a) λr d=>?_;unfold kX at a;split at a;(.cases a);rename_i y l I;injection a with a;show(upd E.part p P r).iU d=_\/_;by_cases e1:r=p;(.subst e1;by_cases e2:d=q;(.subst e2;refine ak<|ah ⟨y,l,I,?_,?_⟩;(.show(upd E.part r P r).iU d=l;rw[upd_same,<-a];simp only[upd_same]);.show y∈(upd E.part r P r).taken;rw[upd_same,<-a];simp);.left;rw[upd_same,<-a];simp only[jq _ _ e2]);.left;rw[jq _ _ e1]
 .cases a:pK c p E with|none=>exact W (by rw[zE,a])|some f=>(have B:∀y∈lO c p (E.part p),y.1<(E.part p).up:=by intro y K;obtain⟨e,G,rfl⟩:=aJ.1 K;exact i.low e (ux G).1);unfold pK at a;split at a;(case isTrue=>cases a);rename_i w;injection a with a;obtain⟨v,t,_⟩:=yU (lO c p<|E.part p) E B;refine V (by rw[zE];unfold pK;rw[if_neg w,a]) (by rw[<-a];exact v) λr d=>ah (by rw[<-a,t r])
structure Round(c:iB)(l:List<|Nat×Nat×Nat):Prop where
 only:∀x∈l,ku c x
 all:∀x,ku c x->x∈l
def lq(c:iB)(B:iE->Prop):Prop:=∀E x,ku c x->B E->B (iZ c E x)
def lq.run{c:iB}{B:iE->Prop}(h:lq c B):∀(l:List<|Nat×Nat×Nat),(∀x∈l,ku c x)->∀E,B E->B (jm c l E)|[],_,_,a=>a|x::l,b,E,a=>lq.run h l (λy d=>b y<|by simp[d]) _ (h E x (b x<|by simp) a)
def lq.next{c:iB}{B:iE->Prop}(h:lq c B){g:Type}{R:g->Prop}{b:g->iE->Prop}(hk:∀a,R a->∀E x,ku c x->B E->b a E->b a (iZ c E x)):lq c λE=>B E/\∀a,R a->b a E:=λE x e d=>⟨h E x e d.1,λa f=>hk a f E x e d.1<|d.2 a f⟩
def lq.Dk{c:iB}{B:iE->Prop}(h:lq c B){d:iE->Prop}(hk:∀E x,ku c x->B E->d E->d (iZ c E x)){x0:Nat×Nat×Nat}(n:∀E,B E->d (iZ c E x0)):∀(l:List<|Nat×Nat×Nat),(∀x∈l,ku c x)->x0∈l->∀E,B E->d (jm c l E)|[],_,e,_,_=>by cases e|x::l,f,e,E,k=>by have p:=f x (by simp);have b:=h E x p k;by_cases g:x=x0;(.subst g;have q:lq c λE=>B E/\d E:=λE y a i=>⟨h E y a i.1,hk E y a i.1 i.2⟩;exact(q.run l (λy a=>f y<|by simp[a]) _ ⟨b,n E k⟩).2);.rcases aQ.1 e with j|j;(.grind);.exact lq.Dk h hk n l (λy a=>f y<|by simp[a]) j _ b
def lq.round{c:iB}{B:iE->Prop}(h:lq c B){f:Type}{R:f->Prop}{b:f->iE->Prop}(hk:∀a,R a->∀E x,ku c x->B E->b a E->b a (iZ c E x))(j:∀a,R a->∃x,ku c x/\∀E,B E->b a (iZ c E x)){l:List<|Nat×Nat×Nat}(d:Round c l){E:iE}(e:B E):B (jm c l E)/\∀a,R a->b a (jm c l E):=⟨h.run l d.only E e,λa g=>by obtain⟨x,k,i⟩:=j a g;exact lq.Dk h (hk a g) i l d.only (d.all x k) E e⟩
structure B0(c:iB)(s0:Cells)(i:Nat)(E:iE):Prop where
 I:mo c s0 E
 S:kl c E
 d:∀j,j<i->jZ c E j=true
def Jl{c:iB}(H:jg c){s0:Cells}{E:iE}(a:mo c s0 E)(d:kl c E){x:Nat×Nat×Nat}(b:ku c x):mo c s0 (iZ c E x)/\kl c (iZ c E x):=by unfold iZ;cases e:jI c E x.1 x.2.1 x.2.2 with|none=>grind|some f=>exact⟨a.pick H b.1 e,d.pick H a b.1 e⟩
def GK{c:iB}{E a:iE}(h:∀r,jo (E.part r)<|a.part r)(hd:jZ c E x=Z):jZ c a x=Z:=by rw[xA]at hd⊢;exactλp d b=>(h p).dn x<|hd p d b
def B0.keeps{c:iB}(H:jg c)(s0:Cells)(i:Nat):lq c<|B0 c s0 i:=λE x a h=>by obtain⟨b,f⟩:=Jl H h.I h.S a;exact⟨b,f,λj e=>GK (qi H h.I a).1<|h.d j e⟩
def RP(c:iB)(i:Nat)(p:Nat):Prop:=p<=c.D.nb/\jE c.D i p=Z
def qq(c:iB)(i:Nat)(x:Nat×Nat):Prop:=x.1<=c.D.nb/\x.2<=c.D.nb/\x.1≠x.2/\jE c.D i x.1=Z/\jE c.D i x.2=Z
def B1(c:iB)(s0:Cells)(i:Nat)(E:iE):Prop:=B0 c s0 i E/\∀p,RP c i p->i<(E.part p).up
def B2(c:iB)(s0:Cells)(i:Nat)(E:iE):Prop:=B1 c s0 i E/\∀p,RP c i p->tO (E.part p) i
def B3(c:iB)(s0:Cells)(i:Nat)(E:iE):Prop:=B2 c s0 i E/\∀x,qq c i x->og (E.part x.1) x.2 i\/((E.part x.2).iU x.1).length<c.C
def B4(c:iB)(s0:Cells)(i:Nat)(E:iE):Prop:=B3 c s0 i E/\∀x,qq c i x->og (E.part x.1) x.2 i
def xB(E:iE)(i n:Nat)(x:Nat×Nat):Prop:=xG (E.part x.2) i x.1\/∃j y,j<n/\((E.part x.2).iU x.1)[j]?=V y/\y.iz=i
def B5(c:iB)(s0:Cells)(i:Nat)(n:Nat)(E:iE):Prop:=B4 c s0 i E/\∀x,qq c i x->xB E i n x
def B6(c:iB)(s0:Cells)(i:Nat)(E:iE):Prop:=B5 c s0 i 0 E/\∀p,RP c i p->jh (E.part p) i=Z
def k1{c:iB}(H:jg c)(s0:Cells)(i:Nat)(hi:i<c.D.nl):∀p,RP c i p->∀E x,ku c x->B0 c s0 i E->i<(E.part p).up->i<((iZ c E x).part p).up:=λp d E x b a h=>az h ((qi H a.I b).1 p).up
def B1.keeps{c:iB}(H:jg c)(s0:Cells)(i:Nat)(hi:i<c.D.nl):lq c<|B1 c s0 i:=(B0.keeps H s0 i).next<|k1 H s0 i hi
def B1.round{c:iB}(H:jg c)(s0:Cells)(i:Nat)(hi:i<c.D.nl){l:List<|Nat×Nat×Nat}(j:Round c l){E:iE}(n:B0 c s0 i E):B1 c s0 i<|jm c l E:=by
 refine(B0.keeps H s0 i).round (k1 H s0 i hi) (λp b=>⟨(p,1,0),⟨b.1,aA _,by simp,by simp⟩,λE e=>?_⟩) j n;by_cases h:i<(E.part p).up;.exact k1 H s0 i hi p b E _ ⟨b.1,aA _,by simp,by simp⟩ e h
 .obtain⟨q,k⟩:=H5 H e.I hi e.d b.1 b.2 h;obtain⟨f,a⟩:=Gq H (p:=p) (by omega) k;(have:iZ c E (p,1,0)={E with part:=upd E.part p f}:=by simp[iZ,zA,a,mF]);rw[this];show i<(upd E.part p f p).up;rw[upd_same];unfold lL at a;split at a;(case isFalse=>cases a);rename_i g;injection a with a;rw[<-a];obtain⟨n1,_⟩:=ui c.D p ((E.part p).up+1) g.1;grind
def k2{c:iB}(H:jg c)(s0:Cells)(i:Nat)(hi:i<c.D.nl):∀p,RP c i p->∀E x,ku c x->B1 c s0 i E->tO (E.part p) i->tO ((iZ c E x).part p) i:=λp d E x b a h=>((qi H a.1.I b).1 p).rd i h
def B2.keeps{c:iB}(H:jg c)(s0:Cells)(i:Nat)(hi:i<c.D.nl):lq c<|B2 c s0 i:=(B1.keeps H s0 i hi).next<|k2 H s0 i hi
def B2.round{c:iB}(H:jg c)(s0:Cells)(i:Nat)(hi:i<c.D.nl){l:List<|Nat×Nat×Nat}(r:Round c l){E:iE}(t:B1 c s0 i E):B2 c s0 i<|jm c l E:=by refine(B1.keeps H s0 i hi).round (k2 H s0 i hi) (λp f=>⟨(p,2,0),⟨f.1,aA _,by simp,by simp⟩,λE g=>?_⟩) r t;have h:ku c (p,2,0):=⟨f.1,aA _,by simp,by simp⟩;cases hd:jh (E.part p) i with|true=>exact k2 H s0 i hi p f E _ h g<|ak hd|false=>obtain⟨e,n,b⟩:=D9 (g.2 p f) hd;cases j:e.read with|true=>exact k2 H s0 i hi p f E _ h g<|ah ⟨e,n,b,j⟩|false=>have s:=vH g.1.I hi g.1.d f.1 n b;obtain⟨q,k,a⟩:=Gz (c:=c) (p:=p) s j;(have:iZ c E (p,2,0)={E with part:=upd E.part p k}:=by simp[iZ,yM,a,mF]);rw[this];show tO (upd E.part p k p) i;rw[upd_same];unfold lK at a;split at a;(case isFalse=>cases a);injection a with a;rw[<-a,q];refine ah ⟨rF c.D (E.part p) e,?_,b,rfl⟩;refine aI (i:=0) ?_;grind
def CM{c:iB}(H:jg c)(s0:Cells)(i:Nat)(hi:i<c.D.nl){E:iE}(k:B2 c s0 i E){q:Nat}(A:qq c i (x,q))(G:og (E.part x) q i\/((E.part q).iU x).length<c.C):og ((iZ c E (x,3,q)).part x) q i:=by
 obtain⟨j,l,b,f,g⟩:=A;simp only at j l b f g;have n:ku c (x,3,q):=⟨j,l,by simp,by simp⟩;have r:=(qi H k.1.1.I n).1 x;by_cases hs:og (E.part x) q i;.exact r.sn q i hs
 . (have v:((E.part q).iU x).length<c.C:=by grind);rcases k.2 x ⟨j,f⟩with⟨e,t,a,z⟩|hd;(case inr=>exact absurd (ak hd) hs);have w:=vH k.1.1.I hi k.1.1.d j t a;(have s:e.iF q=au:=by cases h:e.iF q with|false=>rfl|true=>exact absurd (ah ⟨e,t,a,h⟩) hs);have B:=GY (c:=c) (q:=q) w (by simp[nX,s,z,a,g]);(have:jI c E x 3 q=V ⟨upd (upd E.part x<|mP q 0<|E.part x) q<|mW x (om x (E.part x).opn 0)<|E.part q,E.res⟩:=by rw[xy,if_pos ⟨l,b⟩];unfold n7;grind);(have y:iZ c E (x,3,q)=⟨upd (upd E.part x<|mP q 0<|E.part x) q<|mW x (om x (E.part x).opn 0)<|E.part q,E.res⟩:=by unfold iZ;grind);rw[y];show og (upd (upd E.part x<|mP q 0<|E.part x) q _ x) q i;rw[jq _ _ b,upd_same];refine ah ⟨ot q e,?_,a,?_⟩;(.refine aI (i:=0) ?_;show((E.part x).opn.modify 0<|ot q)[0]?=_;grind);.show upd e.iF q Z q=Z;rw[upd_same]
def k3{c:iB}(H:jg c)(s0:Cells)(i:Nat)(hi:i<c.D.nl):∀x,qq c i x->∀E y,ku c y->B2 c s0 i E->(og (E.part x.1) x.2 i\/((E.part x.2).iU x.1).length<c.C)->(og ((iZ c E y).part x.1) x.2 i\/(((iZ c E y).part x.2).iU x.1).length<c.C):=by
 rintro⟨p,q⟩f E y g b h;obtain⟨j,e⟩:=qi H b.1.1.I g;simp only at h⊢;rcases h with h|h;.exact ah<|(j p).sn q i h
 .rcases e q p with d|⟨z,l,d,a,_⟩|⟨z,d,a⟩;(.grind);(.grind);.left;rw[a];exact CM H s0 i hi b f<|ak h
def B3.keeps{c:iB}(H:jg c)(s0:Cells)(i:Nat)(hi:i<c.D.nl):lq c<|B3 c s0 i:=(B2.keeps H s0 i hi).next<|k3 H s0 i hi
def B3.round{c:iB}(H:jg c)(s0:Cells)(i:Nat)(hi:i<c.D.nl){l:List<|Nat×Nat×Nat}(r:Round c l){E:iE}(s:B2 c s0 i E):B3 c s0 i<|jm c l E:=by refine(B2.keeps H s0 i hi).round (k3 H s0 i hi) ?_ r s;rintro⟨p,q⟩k;obtain⟨b,d,a,g,e⟩:=id k;simp only at b d a g e;have f:ku c (q,4,p):=⟨d,b,by simp,by simp⟩;refine⟨(q,4,p),f,λE j=>?_⟩;simp only;right;have n:=(j.1.1.I.part q d).sH p;have t:=H.C.1;cases h:(E.part q).iU p with|nil=>(have:iZ c E (q,4,p)=E:=by simp only[iZ,tL,if_pos<|show p<=c.D.nb/\q≠p from⟨b,Ne.symm a⟩];simp[kX,h,mF]);grind|cons z l=>(have:iZ c E (q,4,p)={E with part:=upd E.part q {E.part q with taken:=(E.part q).taken++[z],iU:=upd (E.part q).iU p l}}:=by simp only[iZ,tL,if_pos<|show p<=c.D.nb/\q≠p from⟨b,Ne.symm a⟩];simp[kX,h,mF]);rw[this];simp only[upd_same];grind
def k4{c:iB}(H:jg c)(s0:Cells)(i:Nat)(hi:i<c.D.nl):∀x,qq c i x->∀E y,ku c y->B3 c s0 i E->og (E.part x.1) x.2 i->og ((iZ c E y).part x.1) x.2 i:=λx d E y b a h=>((qi H a.1.1.1.I b).1 x.1).sn x.2 i h
def B4.keeps{c:iB}(H:jg c)(s0:Cells)(i:Nat)(hi:i<c.D.nl):lq c<|B4 c s0 i:=(B3.keeps H s0 i hi).next<|k4 H s0 i hi
def B4.round{c:iB}(H:jg c)(s0:Cells)(i:Nat)(hi:i<c.D.nl){l:List<|Nat×Nat×Nat}(e:Round c l){E:iE}(d:B3 c s0 i E):B4 c s0 i<|jm c l E:=by refine(B3.keeps H s0 i hi).round (k4 H s0 i hi) ?_ e d;rintro⟨p,q⟩a;exact⟨(p,3,q),⟨a.1,a.2.1,by simp,by simp⟩,λE b=>CM H s0 i hi b.1 a<|b.2 _ a⟩
def H6{c:iB}(H:jg c)(s0:Cells)(i:Nat)(hi:i<c.D.nl){E:iE}(a:B4 c s0 i E):B5 c s0 i c.C E:=by
 refine⟨a,?_⟩;rintro⟨p,q⟩g;obtain⟨n,k,f,d,b⟩:=id g;rcases a.1.1.1.1.S.zG p q i n k f d b (a.2 _ g)with⟨y,r,e⟩|h|h;.obtain⟨j,l⟩:=aP r;refine ak ⟨j,y,?_,l,e⟩;have t:=(List.getElem?_eq_some_iff.1 l).1;have s:=(a.1.1.1.1.I.part q k).sH p;omega
 .exact ah<|ah h
 .exact ah<|ak h
def k5{c:iB}(H:jg c)(s0:Cells)(i:Nat)(hi:i<c.D.nl)(n:Nat):∀x,qq c i x->∀E y,ku c y->B4 c s0 i E->xB E i n x->xB (iZ c E y) i n x:=by
 rintro⟨p,q⟩k E y r f h;obtain⟨t,v⟩:=qi H f.1.1.1.1.I r;rcases h with h|⟨j,z,e,b,a⟩;.exact ah<|(t q).gt i p h
 .simp only at b;rcases v q p with d|⟨w,l,d,s,g⟩|⟨w,d,s⟩;(.exact ak ⟨j,z,e,by grind,a⟩);(.rw[d]at b;cases j with|zero=>simp only[aU,Option.some.injEq]at b;subst b;have:=((f.1.1.1.1.I.part q k.2.1).sF p w<|by rw[d];simp).1;exact ah<|ah<|qY.2 ⟨w,g,a,this⟩|succ j=>simp only[List.getElem?_cons_succ]at b;exact ak ⟨j,z,by omega,by grind,a⟩);.refine ak ⟨j,z,e,?_,a⟩;grind
def B5.keeps{c:iB}(H:jg c)(s0:Cells)(i:Nat)(hi:i<c.D.nl)(n:Nat):lq c<|B5 c s0 i n:=(B4.keeps H s0 i hi).next<|k5 H s0 i hi n
def B5.round{c:iB}(H:jg c)(s0:Cells)(i:Nat)(hi:i<c.D.nl)(n:Nat){l:List<|Nat×Nat×Nat}(G:Round c l){E:iE}(L:B5 c s0 i (n+1) E):B5 c s0 i n<|jm c l E:=by
 have:=(B5.keeps H s0 i hi<|n+1).round (λx f E y B b h=>k5 H s0 i hi n x f E y B b.1 h) ?_ G L;.exact⟨this.1.1,this.2⟩
 .rintro⟨p,q⟩f;obtain⟨g,t,a,k,v⟩:=id f;simp only at g t a k v;have d:ku c (q,4,p):=⟨t,g,by simp,by simp⟩;refine⟨(q,4,p),d,λE b=>?_⟩;obtain⟨K,_⟩:=qi H b.1.1.1.1.1.I d;rcases b.2 _ f with h|⟨j,z,M,e,r⟩;(.exact ah<|(K q).gt i p h);.simp only at e;cases s:(E.part q).iU p with|nil=>grind|cons w l=>(have A:iZ c E (q,4,p)={E with part:=upd E.part q {E.part q with taken:=(E.part q).taken++[w],iU:=upd (E.part q).iU p l}}:=by simp only[iZ,tL,if_pos<|show p<=c.D.nb/\q≠p from⟨g,Ne.symm a⟩];simp[kX,s,mF]);rw[s]at e;unfold xB xG;simp only;rw[A];simp only[upd_same];cases j with|zero=>simp only[aU,Option.some.injEq]at e;subst e;have:=((b.1.1.1.1.1.I.part q t).sF p w<|by rw[s];simp).1;exact ah<|ah<|qY.2 ⟨w,by simp,r,this⟩|succ j=>grind
def k6{c:iB}(H:jg c)(s0:Cells)(i:Nat)(hi:i<c.D.nl):∀p,RP c i p->∀E x,ku c x->B5 c s0 i 0 E->jh (E.part p) i=Z->jh ((iZ c E x).part p) i=Z:=λp d E x b a h=>((qi H a.1.1.1.1.1.I b).1 p).dn i h
def B6.round{c:iB}(H:jg c)(s0:Cells)(i:Nat)(hi:i<c.D.nl){l:List<|Nat×Nat×Nat}(hl:Round c l){E:iE}(hE:B5 c s0 i 0 E):B6 c s0 i<|jm c l E:=by refine(B5.keeps H s0 i hi 0).round (k6 H s0 i hi) (λp f=>⟨(p,5,0),⟨f.1,aA _,by simp,by simp⟩,λE x=>?_⟩) hl hE;have N:ku c (p,5,0):=⟨f.1,aA _,by simp,by simp⟩;have b:=x.1.1.1.1.1;cases hd:jh (E.part p) i with|true=>exact k6 H s0 i hi p f E _ N x hd|false=>(have t:∃e∈(E.part p).opn,e.iz=i/\e.read=Z:=by rcases x.1.1.1.2 p f with h|h;(.exact h);grind);obtain⟨e,P,r,hr⟩:=t;have hf:=vH b.I hi b.d f.1 P r;(have hx:nR c.D p (E.part p) e=Z:=by rw[EU];intro q R g v;rw[r]at v;have L:qq c i (p,q):=⟨f.1,R,Ne.symm g,f.2,v⟩;have A:qq c i (q,p):=⟨R,f.1,g,v,f.2⟩;constructor;(.rcases x.1.2 _ L with⟨e',G,z,hs⟩|h;(.have:=vH b.I hi b.d f.1 G z;grind);grind);.rw[r];rcases x.2 _ A with(h|h)|⟨j,_,hj,_⟩;(.exact h);(.grind);.omega);(obtain⟨M,B⟩:∃M,(E.part p).opn=e::M:=by cases ho:(E.part p).opn with|nil=>grind|cons a M=>grind);(have n:e∈ky c p (E.part p):=by unfold ky;have hK:=H.K.1;rw[B,List.filter_cons_of_pos<|by simp[hr,hx]];cases hk:c.K with|zero=>omega|succ k=>simp);(have g:¬ky c p (E.part p)=[]:=λh=>by grind);(have O:iZ c E (p,5,0)=(lO c p<|E.part p).foldl (kS c.D p) E:=by simp only[iZ,zE,pK,if_neg g];rfl);rw[O];(have w:∀y∈lO c p (E.part p),y.1<(E.part p).up:=by intro y hy;obtain⟨e,P,rfl⟩:=aJ.1 hy;exact(b.I.part p f.1).low e (ux P).1);obtain⟨_,_,S⟩:=yU (lO c p<|E.part p) E w;have s:(e.iz,uC c.D (E.part p) e)∈lO c p (E.part p):=aJ.2 ⟨e,n,rfl⟩;have:=S ⟨_,s,trivial⟩ _ s;rw[r]at this;exact this
def nV(c:iB):List (List<|Nat×Nat×Nat)->iE->iE|[],E=>E|l::L,E=>nV c L (jm c l E)
def vN(c:iB):∀(L M:List<|List<|Nat×Nat×Nat)(E:iE),nV c (L++M) E=nV c M (nV c L E)|[],_,_=>rfl|l::L,M,E=>vN c L M _
def Bu{c:iB}(H:jg c)(s0:Cells)(i:Nat)(hi:i<c.D.nl):∀(n:Nat)(L:List<|List<|Nat×Nat×Nat),L.length=n->(∀l∈L,Round c l)->∀E,B5 c s0 i n E->B5 c s0 i 0 (nV c L E)|0,L,h,_,E,a=>(by cases L with|nil=>exact a|cons l L=>simp at h)|n+1,L,h,b,E,a=>by cases L with|nil=>simp at h|cons l L=>exact Bu H s0 i hi n L (by simpa using h) (λe d=>b e<|by simp[d]) _<|B5.round H s0 i hi n (b l<|by simp) a
def GJ{c:iB}(H:jg c)(s0:Cells)(i:Nat)(hi:i<c.D.nl)(L:List<|List<|Nat×Nat×Nat)(h:∀l∈L,Round c l)(q:L.length=c.C+6)(E:iE)(hE:B0 c s0 i E):B0 c s0 (i+1)<|nV c L E:=by match L,h,q with|a::b::d::e::f::g::L,h,q=>have y:=B1.round H s0 i hi (h a<|by simp) hE;have R:=B2.round H s0 i hi (h b<|by simp) y;have h3:=B3.round H s0 i hi (h d<|by simp) R;have G:=B4.round H s0 i hi (h e<|by simp) h3;have O:=H6 H s0 i hi G;(have w:L.length=c.C:=by simpa using q);have A:=(B5.keeps H s0 i hi c.C).run f (h f<|by simp).only _ O;obtain⟨M,z,K⟩:∃M z,g::L=M++[z]:=⟨(g::L).dropLast,(g::L).getLast<|by simp,by rw[List.dropLast_concat_getLast]⟩;(have t:M.length=c.C:=by grind);have r:∀l∈M,Round c l:=λl hl=>h l (by grind);have P:=h z (by grind);have N:=Bu H s0 i hi c.C M t r _ A;have v:=B6.round H s0 i hi P N;(have n:nV c (a::b::d::e::f::g::L) E=jm c z (nV c M<|jm c f<|jm c e<|jm c d<|jm c b<|jm c a E):=by simp only[nV];have:jm c g (jm c f<|jm c e<|jm c d<|jm c b<|jm c a E)=jm c g (jm c f<|jm c e<|jm c d<|jm c b<|jm c a E):=rfl;show nV c (g::L) _=_;rw[K,vN];rfl);rw[n];have k:=v.1.1.1.1.1.1;refine⟨k.I,k.S,λj hj=>?_⟩;by_cases s:j=i;(.subst s;rw[xA];exactλp x B=>v.2 p ⟨x,B⟩);.exact k.d j<|by omega
def zW{c:iB}(H:jg c)(s0:Cells):∀(n i:Nat),i+n=c.D.nl->∀(L:List<|List<|Nat×Nat×Nat),(∀l∈L,Round c l)->L.length=n*(c.C+6)->∀E,B0 c s0 i E->B0 c s0 c.D.nl (nV c L E)|0,i,h,L,b,e,E,a=>(by cases L with|nil=>rw[show c.D.nl=i by omega];exact a|cons l L=>simp at e)|n+1,i,h,L,b,e,E,a=>by(have f:c.C+6<=L.length:=by grind);rw[<-List.take_append_drop (c.C+6) L,vN];refine zW H s0 n (i+1) (by omega) (L.drop<|c.C+6) (λl d=>b l<|List.mem_of_mem_drop d) (by grind) _ ?_;exact GJ H s0 i (by omega) _ (λl d=>b l<|List.mem_of_mem_take d) (by grind) E a
end
section
open Go.RowKit Go.Maps Go.Rel Go.Sort
section
variable{z:Nat}{O:Nat->Nat}{w:u}{e:Nat}{c:iB}{vB vL:X}{K R:Nat}{f:Nat->X}{E:iE}{s0:Cells}
def iS.kQ{a:Nat->Nat}(h:iS z O w e c vB vL K R f E)(hk:iD (λ_=>True) w i)(d:∀b,b<w.heap.size->a b=O b):iS z a i e c vB vL K R f E:=h.move (λb g=>hk.block b trivial g) hk.size d
def uG(hk:iD (λ_=>True) w i){b:Nat}{v:X}(h:w.cell? ⟨b,x,W⟩=V v):i.cell? ⟨b,x,W⟩=V v:=by rw[hk.cell trivial<|World.block_lt_of_cell? _ _ h];exact h
end
end
section
def Ex{c:iB}(l:c.D.nb<=3)(d:x<(c.D.nb+1)*5*(c.D.nb+1)):Round c<|mO (c.D.nb+1) x:=by
 have a:c.D.nb+1=1\/c.D.nb+1=2\/c.D.nb+1=3\/c.D.nb+1=4:=by omega
 refine⟨λb e=>?_,λb e=>?_⟩;.obtain⟨i,_,rfl⟩:=aJ.1 e;obtain⟨n1,f,j,s⟩:=CN (fi:=x) (i:=i) a;exact⟨by omega,by omega,f,j⟩
 .obtain⟨h,r,n,g⟩:=e;exact F5 a d (p:=b.1) (k:=b.2.1) (q:=b.2.2) (aV h) n g<|aV r
end
section
open Go.RowKit Go.Maps Go.Rel Go.Sort
section
variable{z z':Nat}{O O':Nat->Nat}{w w':u}{e:Nat}{c:iB}{vB vL vS:X}{K R G:Nat}{E:iE}{s0:Cells}{f:Nat->X}
def Ag.other(g:1<=z)(a:Ag z O w w'):Af z' O w w':=a.mono λb d=>qD g d.2
def Ag.apart(g:z+50<=z'\/z'+50<=z)(h:Ag z O w w'){b:Nat}(d:b<w.heap.size)(j:z'<=O b)(i:O b<z'+50):w'.heap[b]?=w.heap[b]?:=h.block b (λa=>by have:=a.1;have:=a.2;omega) d
def iS.other(h:iS z' O w e c vB vL K R f E)(r:c.D.nb<=3)(n:1<=z)(a:z+50<=z'\/z'+50<=z)(d:Ag z O w w')(g:∀b,b<w.heap.size->O' b=O b):iS z' O' w' e c vB vL K R f E:=by have j:Af z' O w w':=d.other n;have oK:=h.oK;have oR:=h.oR;exact⟨λi q=>h.k i<|j.step q g,by rw[g K h.row.lt];exact oK,by rw[g R h.res.lt];exact oR,h.row.block<|d.apart a h.row.lt (by omega)<|by omega,λp s l hs=>(h.part p s l hs).moveF j g λb t v=>d.apart a t (by omega)<|by omega,h.res.block<|d.apart a h.res.lt (by omega)<|by omega⟩
def nG.other(h:nG z' O w e c vB vL K R E)(g:c.D.nb<=3)(j:1<=z)(i:z+50<=z'\/z'+50<=z)(n0:ph z O 0)(a:Ag z O w w')(d:∀b,b<w.heap.size->O' b=O b):nG z' O' w' e c vB vL K R E:=by obtain⟨f,k⟩:=h.is;exact⟨⟨f,k.other g j i a d⟩,h.lr.moveF (a.other j) d,by have:=h.n0;unfold ph Own at*;rw[d 0 h.pos];exact this,h.zero.move n0 a h.pos,az h.pos a.size⟩
end
structure wZ where
 G:Nat
 e:Nat
 K:Nat
 R:Nat
 b:X
 l:X
structure sD(z:Nat)(w:u)(vB vL vS:X)(A:wZ)(c:iB)(s0:Cells)(O:Nat->Nat)(E:iE):Prop where
 nY:nG z O w A.e c A.b A.l A.K A.R E
 inv:Inv c s0 E
 g:pM z O w A.G A.e vB vL vS c s0
section
variable{z z':Nat}{O O':Nat->Nat}{w w':u}{c:iB}{vB vL vS:X}{A:wZ}{E E':iE}{s0:Cells}
def sD.other(h:sD z' w vB vL vS A c s0 O E)(i:1<=z)(a:z+50<=z'\/z'+50<=z)(n0:ph z O 0)(j:Ag z O w w')(d:∀b,b<w.heap.size->O' b=O b):sD z' w' vB vL vS A c s0 O' E:=⟨h.nY.other h.inv.H.G.nb i a n0 j d,h.inv,h.g.moveF (j.other i) d⟩
def sD.re(h:sD z w vB vL vS A c s0 O E)(a:Nat->Question->Nat)(d:Nat):sD z (w.re a d) vB vL vS A c s0 O E:=⟨h.nY.re a d,h.inv,h.g.re a d⟩
def sD.c0(h:sD z w vB vL vS A c s0 O E):w.cell? ⟨A.G,0,W⟩=V (Q<|V ⟨A.e,0,W⟩):=by obtain⟨b,d,a,_⟩:=h.g.law;exact a.cell<|by omega
def sD.c7(h:sD z w vB vL vS A c s0 O E):w.cell? ⟨A.G,7,W⟩=V (J U ((c.D.nb+1:Nat):Int)):=by obtain⟨b,d,a,_⟩:=h.g.law;exact a.cell<|by omega
def sD.goes(h:sD z w vB vL vS A c s0 O E)(a:Inv c s0 E')(j:nG z O' w' A.e c A.b A.l A.K A.R E')(i:Ag z O w w')(d:∀b,b<w.heap.size->O' b=O b):sD z w' vB vL vS A c s0 O' E':=⟨j,a,h.g.move i d⟩
end
structure pG(w1 w:u)(vB vL vS:X)(A1 A2:wZ)(c:iB)(s0:Cells)(O:Nat->Nat)(E1 E2:iE):Prop where
 a:sD 1 w vB vL vS A1 c s0 O E1
 b:sD 51 w vB vL vS A2 c s0 O E2
 zero:∀b,b<w1.heap.size->O b=0
 old:iD (λb=>b<w1.heap.size) w1 w
section
variable{O:Nat->Nat}{w1 w w':u}{c:iB}{vB vL vS:X}{A1 A2:wZ}{E1 E2 E':iE}{s0:Cells}
def pG.cell(h:pG w1 w vB vL vS A1 A2 c s0 O E1 E2){b o:Nat}{v:X}(d:w1.cell? ⟨b,o,W⟩=V v):w.cell? ⟨b,o,W⟩=V v:=by have a:=World.block_lt_of_cell? _ _ d;rw[h.old.cell a a];exact d
def pG.re(h:pG w1 w vB vL vS A1 A2 c s0 O E1 E2)(g:Nat->Question->Nat)(d:Nat):pG w1 (w.re g d) vB vL vS A1 A2 c s0 O E1 E2:=⟨h.a.re g d,h.b.re g d,h.zero,⟨h.old.size,h.old.block⟩⟩
def pG.NG(h:pG w1 w vB vL vS A1 A2 c s0 O E1 E2)(k:Inv c s0 E')(n:nB 1 O w A1.e c A1.b A1.l A1.K A1.R E' w'):∃O',pG w1 w' vB vL vS A1 A2 c s0 O' E' E2:=by obtain⟨O',p,d,j⟩:=n;exact⟨O',h.a.goes k p d j,h.b.other (aq 1) (ah<|aq _) h.a.nY.n0 d j,λb g=>by rw[j b<|az g h.old.size];exact h.zero b g,h.old.trans ⟨d.size,λb g i=>d.block b (qD (aq 1)<|h.zero b g) i⟩⟩
def pG.Py(h:pG w1 w vB vL vS A1 A2 c s0 O E1 E2)(k:Inv c s0 E')(n:nB 51 O w A2.e c A2.b A2.l A2.K A2.R E' w'):∃O',pG w1 w' vB vL vS A1 A2 c s0 O' E1 E':=by obtain⟨O',p,d,j⟩:=n;exact⟨O',h.a.other (by omega) (ak<|aq _) h.b.nY.n0 d j,h.b.goes k p d j,λb g=>by rw[j b<|az g h.old.size];exact h.zero b g,h.old.trans ⟨d.size,λb g i=>d.block b (qD (by omega)<|h.zero b g) i⟩⟩
end
def Yl{c:iB}{s0:Cells}{E1 E2:iE}(b:Inv c s0 E1)(a:Inv c s0 E2)(hi:x<c.D.nl)(d1:jZ c E1 x=Z)(d2:jZ c E2 x=Z):(kH c E1 x).dn=Z/\(kH c E2 x).dn=Z/\(kH c E1 x).ab=(kH c E2 x).ab/\(kH c E1 x).r=(kH c E2 x).r:=by
 rcases b.e.result b.H hi with⟨hd,_⟩|⟨_,p1,d,p3⟩;.grind
 rcases a.e.result a.H hi with⟨hd,_⟩|⟨_,q1,q2,g⟩;.grind
 grind
def Nu{hs a:Nat->Bool}{vl b:Nat->Int}(h:∀k,iW (hs,vl) k=iW (a,b) k):∀n,jC hs vl n=jC a b n|0=>rfl|n+1=>by have e:=h n;unfold iW at e;unfold jC;rw[Nu h n];grind
def abD{c:iB}{s0:Cells}{E1 E2:iE}(d:Inv c s0 E1)(b:Inv c s0 E2)(d1:∀i,i<c.D.nl->jZ c E1 i=Z)(d2:∀i,i<c.D.nl->jZ c E2 i=Z)(a:x<=c.D.nb)(n:Nat):jC (E1.part x).hs (E1.part x).vl n=jC (E2.part x).hs (E2.part x).vl n:=Nu (λk=>by rw[d.e.tables d.H d1 a k,b.e.tables b.H d2 a k]) n
noncomputable def j6:m:=Tryz.f10.body.getD .skip
def V8:Tryz.f10.body=V j6:=rfl
noncomputable def F4:m:=iA j6
noncomputable def sj:m:=iA<|iy j6
noncomputable def su:m:=iA<|iy<|iy j6
noncomputable def C6:m:=iA<|iy<|iy<|iy j6
noncomputable def kO:m:=iy<|iy<|iy<|iy j6
noncomputable def GA:m:=iA<|iA kO
noncomputable def wG:m:=ja<|iL<|iy<|iA kO
noncomputable def lH:m:=iy kO
noncomputable def GP:m:=iA<|iA lH
noncomputable def vQ:m:=ja<|iL<|iy<|iA lH
noncomputable def mv:m:=iy lH
noncomputable def Ht:m:=iA<|iA mv
noncomputable def uV:m:=ja<|iL<|iy<|iA mv
noncomputable def nz:m:=iy mv
noncomputable def G4:m:=iA<|iA nz
noncomputable def uc:m:=ja<|iL<|iy<|iA nz
noncomputable def ql:m:=iy nz
noncomputable def HC:m:=iA<|iA ql
noncomputable def rf:m:=ja<|iL<|iy<|iA ql
noncomputable def Ds:m:=iy ql
def aam:j6=ai F4 (ai sj<|ai su<|ai C6 kO):=by kernel_rfl
def V5:kO=ai (ai GA<|an 0<|ar wG) lH:=by kernel_rfl
def VN:lH=ai (ai GP<|an 2<|ar vQ) mv:=by kernel_rfl
def aeV:mv=ai (ai Ht<|an 4<|ar uV) nz:=by kernel_rfl
def acO:nz=ai (ai G4<|an 6<|ar uc) ql:=by kernel_rfl
def XN:ql=ai (ai HC<|an 8<|ar rf) Ds:=by kernel_rfl
noncomputable def CG:m:=iA wG
noncomputable def uA:m:=iL<|iA<|iy wG
noncomputable def D7:m:=iy<|iy wG
def Ov:wG=ai CG (ai (an 1 uA) D7):=by kernel_rfl
noncomputable def Cs:m:=iA vQ
noncomputable def vh:m:=iL<|iA<|iy vQ
noncomputable def EB:m:=iy<|iy vQ
def O6:vQ=ai Cs (ai (an 3 vh) EB):=by kernel_rfl
noncomputable def CI:m:=iA uV
noncomputable def Ar:m:=iL<|iA<|iy uV
noncomputable def FL:m:=iy<|iy uV
def L4:uV=ai CI (ai (an 5 Ar) FL):=by kernel_rfl
noncomputable def Bt:m:=iA uc
noncomputable def yI:m:=iL<|iA<|iy uc
noncomputable def Fy:m:=iy<|iy uc
def VF:uc=ai Bt (ai (an 7 yI) Fy):=by kernel_rfl
noncomputable def CW:m:=iA rf
noncomputable def sc:m:=iL<|iA<|iy rf
noncomputable def Fq:m:=iy<|iy rf
def Un:rf=ai CW (ai (an 9 sc) Fq):=by kernel_rfl
noncomputable def uD:m:=iA Ar
noncomputable def ud:m:=iy Ar
def Uz:Ar=ai uD ud:=by kernel_rfl
noncomputable def GU:m:=iA yI
noncomputable def Je:m:=iA<|iy yI
noncomputable def Jm:m:=iy<|iy yI
def WN:yI=ai GU (ai Je Jm):=by kernel_rfl
noncomputable def Ja:m:=iA sc
noncomputable def Hp:m:=iA<|iy sc
noncomputable def Jt:m:=iA<|iy<|iy sc
noncomputable def FZ:m:=iA<|iy<|iy<|iy sc
noncomputable def vU:m:=ja<|iL<|iy<|iy<|iy<|iy sc
def TJ:sc=ai Ja (ai Hp<|ai Jt<|ai FZ<|an 10<|ar vU):=by kernel_rfl
noncomputable def BN:m:=iA vU
noncomputable def GB:m:=iL<|iA<|iy vU
noncomputable def Fv:m:=iy<|iy vU
def Ss:vU=ai BN (ai (an 11 GB) Fv):=by kernel_rfl
def Lq:sj=aD 1 ((opsL sj).take 1++opAt (opsL sj) 1::(opsL sj).drop 2).toArray au:=by kernel_rfl
def Lp:(opAt (opsL sj) 1).op=.call ⟨.value<|.func 14,#[.tmp 28],#[42]⟩:=by kernel_rfl
def Nw(old:jL):∀a∈(opsL sj).take 1++oC (opAt (opsL sj) 1)::(opsL sj).drop 2,mr (jb old) Y a:=rO<|by kernel_rfl
def Ky:su=aD 2 ((opsL su).take 1++opAt (opsL su) 1::(opsL su).drop 2).toArray au:=by kernel_rfl
def MA:(opAt (opsL su) 1).op=.call ⟨.value<|.func 14,#[.tmp 33],#[42]⟩:=by kernel_rfl
def Md(old:jL):∀a∈(opsL su).take 1++oC (opAt (opsL su) 1)::(opsL su).drop 2,mr (jb old) Y a:=rO<|by kernel_rfl
def UU:uA=aD 8 ((opsL uA).take 5++opAt (opsL uA) 5::(opsL uA).drop 6).toArray au:=by kernel_rfl
def Qf:(opAt (opsL uA) 5).op=.call ⟨.value<|.func 15,#[.tmp 61,.tmp 65],#[44,49]⟩:=by kernel_rfl
def Wj(old:jL):∀a∈(opsL uA).take 5++oC (opAt (opsL uA) 5)::(opsL uA).drop 6,mr (jb old) Y a:=rO<|by kernel_rfl
def Qu:vh=aD 12 ((opsL vh).take 5++opAt (opsL vh) 5::(opsL vh).drop 6).toArray au:=by kernel_rfl
def afB:(opAt (opsL vh) 5).op=.call ⟨.value<|.func 15,#[.tmp 73,.tmp 77],#[44,49]⟩:=by kernel_rfl
def PK(old:jL):∀a∈(opsL vh).take 5++oC (opAt (opsL vh) 5)::(opsL vh).drop 6,mr (jb old) Y a:=rO<|by kernel_rfl
def T3:uD=aD 16 ((opsL uD).take 4++opAt (opsL uD) 4::(opsL uD).drop 5).toArray au:=by kernel_rfl
def ael:(opAt (opsL uD) 4).op=.call ⟨.value<|.func 18,#[.tmp 91,.tmp 94],#[44,3]⟩:=by kernel_rfl
def Zv(old:jL):∀a∈(opsL uD).take 4++oC (opAt (opsL uD) 4)::(opsL uD).drop 5,mr (jb old) Y a:=rO<|by kernel_rfl
def Wu:ud=aD 17 ((opsL ud).take 2++opAt (opsL ud) 2::(opsL ud).drop 3).toArray au:=by kernel_rfl
def adf:(opAt (opsL ud) 2).op=.call ⟨.value<|.func 18,#[.tmp 96,.tmp 97],#[44,3]⟩:=by kernel_rfl
def VK(old:jL):∀a∈(opsL ud).take 2++oC (opAt (opsL ud) 2)::(opsL ud).drop 3,mr (jb old) Y a:=rO<|by kernel_rfl
def kJ(a:Act)(hs:a.tmps.size=223)(hd:a.defers=[]):∃g:Nat->X,a=⟨#[g 0,g 1,g 2,g 3,g 4,g 5,g 6,g 7,g 8,g 9,g 10,g 11,g 12,g 13,g 14,g 15,g 16,g 17,g 18,g 19,g 20,g 21,g 22,g 23,g 24,g 25,g 26,g 27,g 28,g 29,g 30,g 31,g 32,g 33,g 34,g 35,g 36,g 37,g 38,g 39,g 40,g 41,g 42,g 43,g 44,g 45,g 46,g 47,g 48,g 49,g 50,g 51,g 52,g 53,g 54,g 55,g 56,g 57,g 58,g 59,g 60,g 61,g 62,g 63,g 64,g 65,g 66,g 67,g 68,g 69,g 70,g 71,g 72,g 73,g 74,g 75,g 76,g 77,g 78,g 79,g 80,g 81,g 82,g 83,g 84,g 85,g 86,g 87,g 88,g 89,g 90,g 91,g 92,g 93,g 94,g 95,g 96,g 97,g 98,g 99,g 100,g 101,g 102,g 103,g 104,g 105,g 106,g 107,g 108,g 109,g 110,g 111,g 112,g 113,g 114,g 115,g 116,g 117,g 118,g 119,g 120,g 121,g 122,g 123,g 124,g 125,g 126,g 127,g 128,g 129,g 130,g 131,g 132,g 133,g 134,g 135,g 136,g 137,g 138,g 139,g 140,g 141,g 142,g 143,g 144,g 145,g 146,g 147,g 148,g 149,g 150,g 151,g 152,g 153,g 154,g 155,g 156,g 157,g 158,g 159,g 160,g 161,g 162,g 163,g 164,g 165,g 166,g 167,g 168,g 169,g 170,g 171,g 172,g 173,g 174,g 175,g 176,g 177,g 178,g 179,g 180,g 181,g 182,g 183,g 184,g 185,g 186,g 187,g 188,g 189,g 190,g 191,g 192,g 193,g 194,g 195,g 196,g 197,g 198,g 199,g 200,g 201,g 202,g 203,g 204,g 205,g 206,g 207,g 208,g 209,g 210,g 211,g 212,g 213,g 214,g 215,g 216,g 217,g 218,g 219,g 220,g 221,g 222],[]⟩/\∀k,a.tmps.getD k F=g k:=by obtain⟨b,c⟩:=a;simp only at hs hd;subst hd;exact⟨λk=>b.getD k F,congrArg (Act.mk · [])<|(AN hs).trans rfl,λ_=>rfl⟩
def Fl(w:u)(b n:Nat)(v:X)(a:List X):Prop:=w.ownsRow b 81 2 v n a
def iN(b a:X)(fr:Int)(N d c:Nat)(s:Act):Prop:=s.tmps.size=223/\s.defers=[]/\s.tmps.getD 1 F=b/\s.tmps.getD 2 F=a/\s.tmps.getD 3 F=J U fr/\s.tmps.getD 4 F=Q (V ⟨N,0,W⟩)/\s.tmps.getD 9 F=Q (V ⟨d,0,W⟩)/\s.tmps.getD 11 F=Q (V ⟨c,0,W⟩)
def aeS(d c a b:X):(#[d,c,a,b]++Array.replicate (Tryz.f10.ntmps-(#[d,c,a,b]:Array X).size) F)=#[d,c,a,b,F,F,F,F,F,F,F,F,F,F,F,F,F,F,F,F,F,F,F,F,F,F,F,F,F,F,F,F,F,F,F,F,F,F,F,F,F,F,F,F,F,F,F,F,F,F,F,F,F,F,F,F,F,F,F,F,F,F,F,F,F,F,F,F,F,F,F,F,F,F,F,F,F,F,F,F,F,F,F,F,F,F,F,F,F,F,F,F,F,F,F,F,F,F,F,F,F,F,F,F,F,F,F,F,F,F,F,F,F,F,F,F,F,F,F,F,F,F,F,F,F,F,F,F,F,F,F,F,F,F,F,F,F,F,F,F,F,F,F,F,F,F,F,F,F,F,F,F,F,F,F,F,F,F,F,F,F,F,F,F,F,F,F,F,F,F,F,F,F,F,F,F,F,F,F,F,F,F,F,F,F,F,F,F,F,F,F,F,F,F,F,F,F,F,F,F,F,F,F,F,F,F,F,F,F,F,F,F,F,F,F,F,F,F,F,F,F,F,F]:=by kernel_rfl
def acH(w:u)(d g e f h:X)(fr a b c:Int):F4.wp Y (λex s i=>ex=ae/\(s.tmps.size=223/\s.defers=[]/\s.tmps.getD 1 F=d/\s.tmps.getD 2 F=g/\s.tmps.getD 3 F=J U fr/\s.tmps.getD 4 F=Q (V ⟨w.heap.size,0,W⟩))/\i=w.alloc (.cells #[e,J U a,J U b,J U c,f,h] 42)) ⟨#[ay #[e,J U a,J U b,J U c,f,h],d,g,J U fr,F,F,F,F,F,F,F,F,F,F,F,F,F,F,F,F,F,F,F,F,F,F,F,F,F,F,F,F,F,F,F,F,F,F,F,F,F,F,F,F,F,F,F,F,F,F,F,F,F,F,F,F,F,F,F,F,F,F,F,F,F,F,F,F,F,F,F,F,F,F,F,F,F,F,F,F,F,F,F,F,F,F,F,F,F,F,F,F,F,F,F,F,F,F,F,F,F,F,F,F,F,F,F,F,F,F,F,F,F,F,F,F,F,F,F,F,F,F,F,F,F,F,F,F,F,F,F,F,F,F,F,F,F,F,F,F,F,F,F,F,F,F,F,F,F,F,F,F,F,F,F,F,F,F,F,F,F,F,F,F,F,F,F,F,F,F,F,F,F,F,F,F,F,F,F,F,F,F,F,F,F,F,F,F,F,F,F,F,F,F,F,F,F,F,F,F,F,F,F,F,F,F,F,F,F,F,F,F,F,F,F,F,F,F,F,F,F,F,F],[]⟩ w:=by simp only[F4,j6,C,o,iA];go_wp2
def afz{a:Act}(ops:Array ax)(w:u)(f e d h c:X)(fr:Int)(N:Nat)(b b0 c0:Int)(hs:a.tmps.size=223)(hd:a.defers=[])(e1:a.tmps.getD 1 F=f)(e2:a.tmps.getD 2 F=e)(e3:a.tmps.getD 3 F=J U fr)(i:a.tmps.getD 4 F=Q (V ⟨N,0,W⟩))(r:w.cell? ⟨N,0,W⟩=V d)(q:w.cell? ⟨N,1,W⟩=V (J U b))(t:w.cell? ⟨N,2,W⟩=V (J U b0))(p:w.cell? ⟨N,3,W⟩=V (J U c0))(l:w.cell? ⟨N,4,W⟩=V h)(n:w.cell? ⟨N,5,W⟩=V c):wpList Y ops (λex s k=>ex=ae/\(s.tmps.size=223/\s.defers=[]/\s.tmps.getD 1 F=f/\s.tmps.getD 2 F=e/\s.tmps.getD 3 F=J U fr/\s.tmps.getD 4 F=Q (V ⟨N,0,W⟩)/\s.tmps.getD 28 F=ay #[d,J U b,J U b0,J U c0,h,c])/\k=w) ((opsL sj).take 1) a w:=by obtain⟨g,rfl,j⟩:=kJ a hs hd;rw[j]at e1 e2 e3 i;rw[e1,e2,e3,i];simp only[opsL,sj,j6,C,o,iA,iy,aE];go_wp2
def PQ{a:Act}(ops:Array ax)(w:u)(c d f:X)(fr:Int)(N:Nat)(b6:Bool)(hs:a.tmps.size=223)(hd:a.defers=[])(e1:a.tmps.getD 1 F=c)(e2:a.tmps.getD 2 F=d)(e3:a.tmps.getD 3 F=J U fr)(e:a.tmps.getD 4 F=Q (V ⟨N,0,W⟩))(b:a.tmps.getD 29 F=aF #[f,aj b6]):wpList Y ops (λex s h=>ex=ae/\(s.tmps.size=223/\s.defers=[]/\s.tmps.getD 1 F=c/\s.tmps.getD 2 F=d/\s.tmps.getD 3 F=J U fr/\s.tmps.getD 4 F=Q (V ⟨N,0,W⟩)/\s.tmps.getD 9 F=f/\s.tmps.getD 10 F=aj b6)/\h=w) ((opsL sj).drop 2) a w:=by obtain⟨g,rfl,i⟩:=kJ a hs hd;rw[i]at e1 e2 e3 e b;rw[e1,e2,e3,e,b];simp only[opsL,sj,j6,C,o,iA,iy,aW];go_wp2
def aga{a:Act}(ops:Array ax)(w:u)(k h f d j i:X)(fr:Int)(N:Nat)(b6:Bool)(c b0 c0:Int)(hs:a.tmps.size=223)(hd:a.defers=[])(e1:a.tmps.getD 1 F=k)(e2:a.tmps.getD 2 F=h)(e3:a.tmps.getD 3 F=J U fr)(l:a.tmps.getD 4 F=Q (V ⟨N,0,W⟩))(e:a.tmps.getD 9 F=f)(b:a.tmps.getD 10 F=aj b6)(x:w.cell? ⟨N,0,W⟩=V d)(v:w.cell? ⟨N,1,W⟩=V (J U c))(y:w.cell? ⟨N,2,W⟩=V (J U b0))(t:w.cell? ⟨N,3,W⟩=V (J U c0))(q:w.cell? ⟨N,4,W⟩=V j)(r:w.cell? ⟨N,5,W⟩=V i):wpList Y ops (λex s p=>ex=ae/\(s.tmps.size=223/\s.defers=[]/\s.tmps.getD 1 F=k/\s.tmps.getD 2 F=h/\s.tmps.getD 3 F=J U fr/\s.tmps.getD 4 F=Q (V ⟨N,0,W⟩)/\s.tmps.getD 9 F=f/\s.tmps.getD 10 F=aj b6/\s.tmps.getD 33 F=ay #[d,J U c,J U b0,J U c0,j,i])/\p=w) ((opsL su).take 1) a w:=by obtain⟨g,rfl,n⟩:=kJ a hs hd;rw[n]at e1 e2 e3 l e b;rw[e1,e2,e3,l,e,b];simp only[opsL,su,j6,C,o,iA,iy,aE];go_wp2
def S9{a:Act}(ops:Array ax)(w:u)(j h i k:X)(fr:Int)(N:Nat)(b6 d:Bool)(hs:a.tmps.size=223)(hd:a.defers=[])(e1:a.tmps.getD 1 F=j)(e2:a.tmps.getD 2 F=h)(e3:a.tmps.getD 3 F=J U fr)(e:a.tmps.getD 4 F=Q (V ⟨N,0,W⟩))(f:a.tmps.getD 9 F=i)(c:a.tmps.getD 10 F=aj b6)(b:a.tmps.getD 34 F=aF #[k,aj d]):wpList Y ops (λex s l=>ex=ae/\(s.tmps.size=223/\s.defers=[]/\s.tmps.getD 1 F=j/\s.tmps.getD 2 F=h/\s.tmps.getD 3 F=J U fr/\s.tmps.getD 4 F=Q (V ⟨N,0,W⟩)/\s.tmps.getD 9 F=i/\s.tmps.getD 10 F=aj b6/\s.tmps.getD 11 F=k/\s.tmps.getD 12 F=aj d)/\l=w) ((opsL su).drop 2) a w:=by obtain⟨g,rfl,n⟩:=kJ a hs hd;rw[n]at e1 e2 e3 e f c b;rw[e1,e2,e3,e,f,c,b];simp only[opsL,su,j6,C,o,iA,iy,aW];go_wp2
def abl{a:Act}(w:u)(j i:X)(fr:Int)(N:Nat)(hs:a.tmps.size=223)(hd:a.defers=[])(e1:a.tmps.getD 1 F=j)(e2:a.tmps.getD 2 F=i)(e3:a.tmps.getD 3 F=J U fr)(e:a.tmps.getD 4 F=Q (V ⟨N,0,W⟩))(f:a.tmps.getD 9 F=Q W)(c:a.tmps.getD 10 F=aj Z)(d:a.tmps.getD 11 F=Q W)(b:a.tmps.getD 12 F=aj Z):C6.wp Y (λex s h=>ex=.ret/\(s.defers=[]/\s.tmps.getD 8 F=aj Z)/\h=w) a w:=by obtain⟨g,rfl,k⟩:=kJ a hs hd;rw[k]at e1 e2 e3 e f c d b;rw[e1,e2,e3,e,f,c,d,b];simp only[C6,j6,C,o,iA,iy,iY];go_wp2
def TX{a:Act}(w:u)(e f:X)(fr:Int)(N j h:Nat)(hs:a.tmps.size=223)(hd:a.defers=[])(e1:a.tmps.getD 1 F=e)(e2:a.tmps.getD 2 F=f)(e3:a.tmps.getD 3 F=J U fr)(i:a.tmps.getD 4 F=Q (V ⟨N,0,W⟩))(k:a.tmps.getD 9 F=Q (V ⟨j,0,W⟩))(c:a.tmps.getD 10 F=aj Z)(d:a.tmps.getD 11 F=Q (V ⟨h,0,W⟩))(b:a.tmps.getD 12 F=aj Z):C6.wp Y (λex s l=>ex=ae/\(iN e f fr N j h s)/\l=w) a w:=by obtain⟨g,rfl,n⟩:=kJ a hs hd;rw[n]at e1 e2 e3 i k c d b;rw[e1,e2,e3,i,k,c,d,b];unfold iN;simp only[C6,j6,C,o,iA,iy,iY];go_wp2
def Yb{a:Act}(w:u)(c e:X)(fr:Int)(N h f:Nat)(j:iN c e fr N h f a):GA.wp Y (λex s k=>ex=ae/\(iN c e fr N h f s/\s.tmps.getD 13 F=J U ((0:Nat):Int))/\k=w) a w:=by obtain⟨hs,hd,e1,e2,e3,i,d,b⟩:=j;obtain⟨g,rfl,l⟩:=kJ a hs hd;rw[l]at e1 e2 e3 i d b;rw[e1,e2,e3,i,d,b];unfold iN;simp only[GA,kO,j6,C,o,iA,iy,iY];go_wp2
def Yu{a:Act}(w:u)(f:X)(fr:Int)(N k j:Nat)(e:Option ao)(nc cap i:Nat)(p:iN (T e nc cap) f fr N k j a)(c:a.tmps.getD 13 F=J U (i:Nat))(hi:i<nc):CG.wp Y (λex s n=>ex=ae/\(iN (T e nc cap) f fr N k j s/\s.tmps.getD 13 F=J U (i:Nat))/\n=w) a w:=by
 obtain⟨hs,hd,e1,e2,e3,h,d,b⟩:=p;obtain⟨g,rfl,l⟩:=kJ a hs hd;rw[l]at e1 e2 e3 h d b c;rw[e1,e2,e3,h,d,b,c];unfold iN;have i2:(i)<(nc):=by omega
 simp only[CG,wG,kO,j6,C,o,iA,iy,iL,ja,jG];go_wp2
def afV{a:Act}(w:u)(f:X)(fr:Int)(N k j:Nat)(e:Option ao)(nc cap i:Nat)(p:iN (T e nc cap) f fr N k j a)(c:a.tmps.getD 13 F=J U (i:Nat))(hi:¬i<nc):CG.wp Y (λex s n=>ex=aG 0/\(iN (T e nc cap) f fr N k j s)/\n=w) a w:=by
 obtain⟨hs,hd,e1,e2,e3,h,d,b⟩:=p;obtain⟨g,rfl,l⟩:=kJ a hs hd;rw[l]at e1 e2 e3 h d b c;rw[e1,e2,e3,h,d,b,c];unfold iN;have i2:¬(i)<(nc):=by omega
 simp only[CG,wG,kO,j6,C,o,iA,iy,iL,ja,jG];go_wp2
def aee{a:Act}(ops:Array ax)(w:u)(n:X)(fr:Int)(N f k:Nat)(d e nc cap i:Nat)(x0 l p:Int)(r:iN (T (V ⟨d,e,W⟩) nc cap) n fr N f k a)(c:a.tmps.getD 13 F=J U (i:Nat))(hi:i<nc)(d0:w.cell? ⟨d,e+i*3,W⟩=V (J U x0))(d1:w.cell? ⟨d,e+i*3+1,W⟩=V (J U l))(d2:w.cell? ⟨d,e+i*3+2,W⟩=V (J U p)):wpList Y ops (λex s t=>ex=ae/\(iN (T (V ⟨d,e,W⟩) nc cap) n fr N f k s/\s.tmps.getD 13 F=J U (i:Nat)/\s.tmps.getD 61 F=Q (V ⟨f,0,W⟩)/\s.tmps.getD 65 F=ay #[J U x0,J U l,J U p])/\t=w) ((opsL uA).take 5) a w:=by obtain⟨hs,hd,e1,e2,e3,j,h,b⟩:=r;obtain⟨g,rfl,q⟩:=kJ a hs hd;rw[q]at e1 e2 e3 j h b c;rw[e1,e2,e3,j,h,b,c];unfold iN;simp only[opsL,uA,wG,kO,j6,C,o,iA,iy,iL,ja,aE];go_wp2
def RO{a:Act}(w:u)(d e:X)(fr:Int)(N h f:Nat)(i:Nat)(p:iN d e fr N h f a)(b:a.tmps.getD 13 F=J U (i:Nat))(hi:i<10000000):D7.wp Y (λex s l=>ex=ae/\(iN d e fr N h f s/\s.tmps.getD 13 F=J U (i+1:Nat))/\l=w) a w:=by obtain⟨hs,hd,e1,e2,e3,j,k,c⟩:=p;obtain⟨g,rfl,n⟩:=kJ a hs hd;rw[n]at e1 e2 e3 j k c b;rw[e1,e2,e3,j,k,c,b];unfold iN;simp only[D7,wG,kO,j6,C,o,iA,iy,iL,ja,iY];go_wp2
def adU{a:Act}(w:u)(c e:X)(fr:Int)(N h f:Nat)(j:iN c e fr N h f a):GP.wp Y (λex s k=>ex=ae/\(iN c e fr N h f s/\s.tmps.getD 14 F=J U ((0:Nat):Int))/\k=w) a w:=by obtain⟨hs,hd,e1,e2,e3,i,d,b⟩:=j;obtain⟨g,rfl,l⟩:=kJ a hs hd;rw[l]at e1 e2 e3 i d b;rw[e1,e2,e3,i,d,b];unfold iN;simp only[GP,lH,kO,j6,C,o,iA,iy,iY];go_wp2
def aaH{a:Act}(w:u)(j:X)(fr:Int)(N k f:Nat)(e:Option ao)(nc cap i:Nat)(p:iN j (T e nc cap) fr N k f a)(c:a.tmps.getD 14 F=J U (i:Nat))(hi:i<nc):Cs.wp Y (λex s n=>ex=ae/\(iN j (T e nc cap) fr N k f s/\s.tmps.getD 14 F=J U (i:Nat))/\n=w) a w:=by
 obtain⟨hs,hd,e1,e2,e3,h,d,b⟩:=p;obtain⟨g,rfl,l⟩:=kJ a hs hd;rw[l]at e1 e2 e3 h d b c;rw[e1,e2,e3,h,d,b,c];unfold iN;have i2:(i)<(nc):=by omega
 simp only[Cs,vQ,lH,kO,j6,C,o,iA,iy,iL,ja,jG];go_wp2
def RG{a:Act}(w:u)(j:X)(fr:Int)(N k f:Nat)(e:Option ao)(nc cap i:Nat)(p:iN j (T e nc cap) fr N k f a)(c:a.tmps.getD 14 F=J U (i:Nat))(hi:¬i<nc):Cs.wp Y (λex s n=>ex=aG 2/\(iN j (T e nc cap) fr N k f s)/\n=w) a w:=by
 obtain⟨hs,hd,e1,e2,e3,h,d,b⟩:=p;obtain⟨g,rfl,l⟩:=kJ a hs hd;rw[l]at e1 e2 e3 h d b c;rw[e1,e2,e3,h,d,b,c];unfold iN;have i2:¬(i)<(nc):=by omega
 simp only[Cs,vQ,lH,kO,j6,C,o,iA,iy,iL,ja,jG];go_wp2
def abS{a:Act}(ops:Array ax)(w:u)(h:X)(fr:Int)(N n f:Nat)(e d nc cap i:Nat)(x0 k l:Int)(r:iN h (T (V ⟨e,d,W⟩) nc cap) fr N n f a)(b:a.tmps.getD 14 F=J U (i:Nat))(hi:i<nc)(d0:w.cell? ⟨e,d+i*3,W⟩=V (J U x0))(d1:w.cell? ⟨e,d+i*3+1,W⟩=V (J U k))(d2:w.cell? ⟨e,d+i*3+2,W⟩=V (J U l)):wpList Y ops (λex s t=>ex=ae/\(iN h (T (V ⟨e,d,W⟩) nc cap) fr N n f s/\s.tmps.getD 14 F=J U (i:Nat)/\s.tmps.getD 73 F=Q (V ⟨f,0,W⟩)/\s.tmps.getD 77 F=ay #[J U x0,J U k,J U l])/\t=w) ((opsL vh).take 5) a w:=by obtain⟨hs,hd,e1,e2,e3,j,p,c⟩:=r;obtain⟨g,rfl,q⟩:=kJ a hs hd;rw[q]at e1 e2 e3 j p c b;rw[e1,e2,e3,j,p,c,b];unfold iN;simp only[opsL,vh,vQ,lH,kO,j6,C,o,iA,iy,iL,ja,aE];go_wp2
def S3{a:Act}(w:u)(d f:X)(fr:Int)(N j h:Nat)(i:Nat)(l:iN d f fr N j h a)(c:a.tmps.getD 14 F=J U (i:Nat))(hi:i<10000000):EB.wp Y (λex s n=>ex=ae/\(iN d f fr N j h s/\s.tmps.getD 14 F=J U (i+1:Nat))/\n=w) a w:=by obtain⟨hs,hd,e1,e2,e3,k,e,b⟩:=l;obtain⟨g,rfl,p⟩:=kJ a hs hd;rw[p]at e1 e2 e3 k e b c;rw[e1,e2,e3,k,e,b,c];unfold iN;simp only[EB,vQ,lH,kO,j6,C,o,iA,iy,iL,ja,iY];go_wp2
def U5{a:Act}(w:u)(c e:X)(fr:Int)(N h f:Nat)(j:iN c e fr N h f a):Ht.wp Y (λex s k=>ex=ae/\(iN c e fr N h f s/\s.tmps.getD 15 F=J U ((0:Nat):Int))/\k=w) a w:=by obtain⟨hs,hd,e1,e2,e3,i,d,b⟩:=j;obtain⟨g,rfl,l⟩:=kJ a hs hd;rw[l]at e1 e2 e3 i d b;rw[e1,e2,e3,i,d,b];unfold iN;simp only[Ht,mv,lH,kO,j6,C,o,iA,iy,iY];go_wp2
def SY{a:Act}(w:u)(i k:X)(fr:Int)(N l q:Nat)(j b nl f:Nat)(t:Option ao)(v:iN i k fr N l q a)(c:a.tmps.getD 15 F=J U (j:Nat))(z:w.cell? ⟨N,2,W⟩=V (J U (b:Nat)))(E:w.cell? ⟨N,4,W⟩=V (T t nl f))(D:b<=8)(h:nl<=24)(A:j<nl*(b+6)):CI.wp Y (λex s y=>ex=ae/\(iN i k fr N l q s/\s.tmps.getD 15 F=J U (j:Nat))/\y=w) a w:=by
 obtain⟨hs,hd,e1,e2,e3,n,p,d⟩:=v;obtain⟨g,rfl,x⟩:=kJ a hs hd;rw[x]at e1 e2 e3 n p d c;rw[e1,e2,e3,n,p,d,c];unfold iN;have k1:IntKind.i64.wrap ((b)+6)=(b)+6:=by rw[aK]<;>omega
 have e:(nl:Int)*((b)+6)=((nl*(b+6):Nat)):=by simp
 have r:nl*(b+6)<=24*14:=aX h (by omega);generalize nl*(b+6)=M at*;have k2:IntKind.i64.wrap ((nl)*((b)+6))=(M):=by rw[e,aK]<;>omega
 have B:(j)<(M):=by omega
 simp only[CI,uV,mv,lH,kO,j6,C,o,iA,iy,iL,ja,iY];go_wp2
def U4{a:Act}(w:u)(i k:X)(fr:Int)(N l q:Nat)(j b nl f:Nat)(t:Option ao)(v:iN i k fr N l q a)(c:a.tmps.getD 15 F=J U (j:Nat))(z:w.cell? ⟨N,2,W⟩=V (J U (b:Nat)))(E:w.cell? ⟨N,4,W⟩=V (T t nl f))(D:b<=8)(h:nl<=24)(A:¬j<nl*(b+6)):CI.wp Y (λex s y=>ex=aG 4/\(iN i k fr N l q s)/\y=w) a w:=by
 obtain⟨hs,hd,e1,e2,e3,n,p,d⟩:=v;obtain⟨g,rfl,x⟩:=kJ a hs hd;rw[x]at e1 e2 e3 n p d c;rw[e1,e2,e3,n,p,d,c];unfold iN;have k1:IntKind.i64.wrap ((b)+6)=(b)+6:=by rw[aK]<;>omega
 have e:(nl:Int)*((b)+6)=((nl*(b+6):Nat)):=by simp
 have r:nl*(b+6)<=24*14:=aX h (by omega);generalize nl*(b+6)=M at*;have k2:IntKind.i64.wrap ((nl)*((b)+6))=(M):=by rw[e,aK]<;>omega
 have B:¬(j)<(M):=by omega
 simp only[CI,uV,mv,lH,kO,j6,C,o,iA,iy,iL,ja,iY];go_wp2
def VG{a:Act}(ops:Array ax)(w:u)(h i:X)(fr:Int)(N d f:Nat)(j:Nat)(n:iN h i fr N d f a)(c:a.tmps.getD 15 F=J U (j:Nat)):wpList Y ops (λex s l=>ex=ae/\(iN h i fr N d f s/\s.tmps.getD 15 F=J U (j:Nat)/\s.tmps.getD 91 F=Q (V ⟨d,0,W⟩)/\s.tmps.getD 94 F=J U (wrap64<|fr+(j:Nat)))/\l=w) ((opsL uD).take 4) a w:=by obtain⟨hs,hd,e1,e2,e3,k,e,b⟩:=n;obtain⟨g,rfl,p⟩:=kJ a hs hd;rw[p]at e1 e2 e3 k e b c;rw[e1,e2,e3,k,e,b,c];unfold iN;simp only[opsL,uD,Ar,uV,mv,lH,kO,j6,C,o,iA,iy,iL,ja,aE];go_wp2
def Sw{a:Act}(ops:Array ax)(w:u)(h f:X)(fr:Int)(N i d:Nat)(j:Nat)(n:iN h f fr N i d a)(c:a.tmps.getD 15 F=J U (j:Nat)):wpList Y ops (λex s l=>ex=ae/\(iN h f fr N i d s/\s.tmps.getD 15 F=J U (j:Nat)/\s.tmps.getD 96 F=Q (V ⟨d,0,W⟩)/\s.tmps.getD 97 F=J U (j:Nat))/\l=w) ((opsL ud).take 2) a w:=by obtain⟨hs,hd,e1,e2,e3,k,e,b⟩:=n;obtain⟨g,rfl,p⟩:=kJ a hs hd;rw[p]at e1 e2 e3 k e b c;rw[e1,e2,e3,k,e,b,c];unfold iN;simp only[opsL,ud,Ar,uV,mv,lH,kO,j6,C,o,iA,iy,iL,ja,aE];go_wp2
def Yh{a:Act}(w:u)(k i:X)(fr:Int)(N e h:Nat)(j:Nat)(n:iN k i fr N e h a)(c:a.tmps.getD 15 F=J U (j:Nat))(q:j<10000):FL.wp Y (λex s l=>ex=ae/\(iN k i fr N e h s/\s.tmps.getD 15 F=J U (j+1:Nat))/\l=w) a w:=by obtain⟨hs,hd,e1,e2,e3,d,f,b⟩:=n;obtain⟨g,rfl,p⟩:=kJ a hs hd;rw[p]at e1 e2 e3 d f b c;rw[e1,e2,e3,d,f,b,c];unfold iN;simp only[FL,uV,mv,lH,kO,j6,C,o,iA,iy,iL,ja,iY];go_wp2
def abu{a:Act}(w:u)(c e:X)(fr:Int)(N h f:Nat)(j:iN c e fr N h f a):G4.wp Y (λex s k=>ex=ae/\(iN c e fr N h f s/\s.tmps.getD 16 F=J U ((0:Nat):Int))/\k=w) a w:=by obtain⟨hs,hd,e1,e2,e3,i,d,b⟩:=j;obtain⟨g,rfl,l⟩:=kJ a hs hd;rw[l]at e1 e2 e3 i d b;rw[e1,e2,e3,i,d,b];unfold iN;simp only[G4,nz,mv,lH,kO,j6,C,o,iA,iy,iY];go_wp2
def Wc{a:Act}(w:u)(e h:X)(fr:Int)(N l f:Nat)(i nl b:Nat)(q:Option ao)(p:iN e h fr N l f a)(d:a.tmps.getD 16 F=J U (i:Nat))(t:w.cell? ⟨N,4,W⟩=V (T q nl b))(hi:i<nl):Bt.wp Y (λex s n=>ex=ae/\(iN e h fr N l f s/\s.tmps.getD 16 F=J U (i:Nat))/\n=w) a w:=by
 obtain⟨hs,hd,e1,e2,e3,j,k,c⟩:=p;obtain⟨g,rfl,r⟩:=kJ a hs hd;rw[r]at e1 e2 e3 j k c d;rw[e1,e2,e3,j,k,c,d];unfold iN;have i2:(i)<(nl):=by omega
 simp only[Bt,uc,nz,mv,lH,kO,j6,C,o,iA,iy,iL,ja,jG];go_wp2
def Ql{a:Act}(w:u)(e h:X)(fr:Int)(N l f:Nat)(i nl b:Nat)(q:Option ao)(p:iN e h fr N l f a)(d:a.tmps.getD 16 F=J U (i:Nat))(t:w.cell? ⟨N,4,W⟩=V (T q nl b))(hi:¬i<nl):Bt.wp Y (λex s n=>ex=aG 6/\(iN e h fr N l f s)/\n=w) a w:=by
 obtain⟨hs,hd,e1,e2,e3,j,k,c⟩:=p;obtain⟨g,rfl,r⟩:=kJ a hs hd;rw[r]at e1 e2 e3 j k c d;rw[e1,e2,e3,j,k,c,d];unfold iN;have i2:¬(i)<(nl):=by omega
 simp only[Bt,uc,nz,mv,lH,kO,j6,C,o,iA,iy,iL,ja,jG];go_wp2
def afx{a:Act}(w:u)(l t:X)(fr:Int)(N f k:Nat)(i e:Nat)(b0 b1:Bool)(q v n j:Int)(y:iN l t fr N f k a)(c:a.tmps.getD 16 F=J U (i:Nat))(c0:w.cell? ⟨f,0,W⟩=V (Q<|V ⟨e,0,W⟩))(x:aM Y 22 #[Q<|V ⟨e,0,W⟩,J U (i:Nat)] w λr b=>r=.returned (aF #[ay #[aj b0,aj b1,J U q,J U v,J U n,J U j],J U 0])/\Below w.heap.size w b):GU.wp Y (λex s z=>ex=ae/\(iN l t fr N f k s/\s.tmps.getD 16 F=J U (i:Nat)/\s.tmps.getD 18 F=J U 0)/\∃b,Below w.heap.size w b/\s.tmps.getD 17 F=Q (V ⟨b.heap.size,0,W⟩)/\z=b.alloc (.cells #[aj b0,aj b1,J U q,J U v,J U n,J U j] 75)) a w:=by obtain⟨hs,hd,e1,e2,e3,p,h,d⟩:=y;obtain⟨g,rfl,A⟩:=kJ a hs hd;rw[A]at e1 e2 e3 p h d c;rw[e1,e2,e3,p,h,d,c];unfold iN;simp only[GU,yI,uc,nz,mv,lH,kO,j6,C,o,iA,iy,iL,ja,iY];go_wp2_with fail;refine x.mono ?_;rintro r b⟨rfl,B⟩;go_wp2_with fail;exact⟨b,B,rfl,rfl⟩
def SB{a:Act}(w:u)(p n:X)(fr:Int)(N x j:Nat)(z:Nat)(i e:Nat)(b0 b1:Bool)(v y q l:Int)(G:iN p n fr N x j a)(f:a.tmps.getD 16 F=J U (i:Nat))(h:a.tmps.getD 17 F=Q (V ⟨z,0,W⟩))(c:a.tmps.getD 18 F=J U 0)(c0:w.cell? ⟨j,0,W⟩=V (Q<|V ⟨e,0,W⟩))(E:aM Y 22 #[Q<|V ⟨e,0,W⟩,J U (i:Nat)] w λr b=>r=.returned (aF #[ay #[aj b0,aj b1,J U v,J U y,J U q,J U l],J U 0])/\Below w.heap.size w b):Je.wp Y (λex s B=>ex=ae/\(iN p n fr N x j s/\s.tmps.getD 16 F=J U (i:Nat)/\s.tmps.getD 17 F=Q (V ⟨z,0,W⟩)/\s.tmps.getD 18 F=J U 0/\s.tmps.getD 20 F=J U 0)/\∃b,Below w.heap.size w b/\s.tmps.getD 19 F=Q (V ⟨b.heap.size,0,W⟩)/\B=b.alloc (.cells #[aj b0,aj b1,J U v,J U y,J U q,J U l] 75)) a w:=by obtain⟨hs,hd,e1,e2,e3,t,k,d⟩:=G;obtain⟨g,rfl,D⟩:=kJ a hs hd;rw[D]at e1 e2 e3 t k d f h c;rw[e1,e2,e3,t,k,d,f,h,c];unfold iN;simp only[Je,yI,uc,nz,mv,lH,kO,j6,C,o,iA,iy,iL,ja,iY];go_wp2_with fail;refine E.mono ?_;rintro r b⟨rfl,A⟩;go_wp2_with fail;exact⟨b,A,rfl,rfl⟩
def SD{a:Act}(w:u)(q A:X)(fr:Int)(N y v:Nat)(i b c:Nat)(b1:Bool)(x z r n:Int)(E:iN q A fr N y v a)(d:a.tmps.getD 16 F=J U (i:Nat))(h:a.tmps.getD 17 F=Q (V ⟨b,0,W⟩))(f:a.tmps.getD 18 F=J U 0)(j:a.tmps.getD 19 F=Q (V ⟨c,0,W⟩))(k:a.tmps.getD 20 F=J U 0)(p0:w.cell? ⟨b,0,W⟩=V (aj Z))(p1:w.cell? ⟨b,1,W⟩=V (aj b1))(K:w.cell? ⟨b,2,W⟩=V (J U x))(p3:w.cell? ⟨b,3,W⟩=V (J U z))(p4:w.cell? ⟨b,4,W⟩=V (J U r))(G:w.cell? ⟨b,5,W⟩=V (J U n))(q0:w.cell? ⟨c,0,W⟩=V (aj Z))(q1:w.cell? ⟨c,1,W⟩=V (aj b1))(q2:w.cell? ⟨c,2,W⟩=V (J U x))(L:w.cell? ⟨c,3,W⟩=V (J U z))(H:w.cell? ⟨c,4,W⟩=V (J U r))(I:w.cell? ⟨c,5,W⟩=V (J U n)):Jm.wp Y (λex s B=>ex=ae/\(iN q A fr N y v s/\s.tmps.getD 16 F=J U (i:Nat))/\B=w) a w:=by obtain⟨hs,hd,e1,e2,e3,t,p,e⟩:=E;obtain⟨g,rfl,D⟩:=kJ a hs hd;rw[D]at e1 e2 e3 t p e d h f j k;rw[e1,e2,e3,t,p,e,d,h,f,j,k];unfold iN;have l:=Ci;simp only[Jm,yI,uc,nz,mv,lH,kO,j6,C,o,iA,iy,iL,ja,iY];go_wp2
def QD{a:Act}(w:u)(d e:X)(fr:Int)(N k j:Nat)(i:Nat)(p:iN d e fr N k j a)(b:a.tmps.getD 16 F=J U (i:Nat))(hi:i<10000):Fy.wp Y (λex s n=>ex=ae/\(iN d e fr N k j s/\s.tmps.getD 16 F=J U (i+1:Nat))/\n=w) a w:=by obtain⟨hs,hd,e1,e2,e3,h,f,c⟩:=p;obtain⟨g,rfl,l⟩:=kJ a hs hd;rw[l]at e1 e2 e3 h f c b;rw[e1,e2,e3,h,f,c,b];unfold iN;simp only[Fy,uc,nz,mv,lH,kO,j6,C,o,iA,iy,iL,ja,iY];go_wp2
def afG{a:Act}(w:u)(c e:X)(fr:Int)(N h f:Nat)(j:iN c e fr N h f a):HC.wp Y (λex s k=>ex=ae/\(iN c e fr N h f s/\s.tmps.getD 21 F=J U ((0:Nat):Int))/\k=w) a w:=by obtain⟨hs,hd,e1,e2,e3,i,d,b⟩:=j;obtain⟨g,rfl,l⟩:=kJ a hs hd;rw[l]at e1 e2 e3 i d b;rw[e1,e2,e3,i,d,b];unfold iN;simp only[HC,ql,nz,mv,lH,kO,j6,C,o,iA,iy,iY];go_wp2
def TQ{a:Act}(w:u)(e f:X)(fr:Int)(N d i:Nat)(p nb:Nat)(n:iN e f fr N d i a)(b:a.tmps.getD 21 F=J U (p:Nat))(c7:w.cell? ⟨d,7,W⟩=V (J U ((nb+1:Nat):Int)))(q:p<nb+1):CW.wp Y (λex s k=>ex=ae/\(iN e f fr N d i s/\s.tmps.getD 21 F=J U (p:Nat))/\k=w) a w:=by
 obtain⟨hs,hd,e1,e2,e3,j,h,c⟩:=n;obtain⟨g,rfl,l⟩:=kJ a hs hd;rw[l]at e1 e2 e3 j h c b;rw[e1,e2,e3,j,h,c,b];unfold iN;have t:(p)<((nb+1)):=by omega
 generalize nb+1=r at*;simp only[CW,rf,ql,nz,mv,lH,kO,j6,C,o,iA,iy,iL,ja,jG];go_wp2
def Rn{a:Act}(w:u)(e f:X)(fr:Int)(N d i:Nat)(p nb:Nat)(n:iN e f fr N d i a)(b:a.tmps.getD 21 F=J U (p:Nat))(c7:w.cell? ⟨d,7,W⟩=V (J U ((nb+1:Nat):Int)))(q:¬p<nb+1):CW.wp Y (λex s k=>ex=aG 8/\(iN e f fr N d i s)/\k=w) a w:=by
 obtain⟨hs,hd,e1,e2,e3,j,h,c⟩:=n;obtain⟨g,rfl,l⟩:=kJ a hs hd;rw[l]at e1 e2 e3 j h c b;rw[e1,e2,e3,j,h,c,b];unfold iN;have t:¬(p)<((nb+1)):=by omega
 generalize nb+1=r at*;simp only[CW,rf,ql,nz,mv,lH,kO,j6,C,o,iA,iy,iL,ja,jG];go_wp2
def aef{a:Act}(w:u)(t j:X)(fr:Int)(N h l:Nat)(p e n:Nat)(i:List X)(y:iN t j fr N h l a)(c:a.tmps.getD 21 F=J U (p:Nat))(c0:w.cell? ⟨h,0,W⟩=V (Q<|V ⟨e,0,W⟩))(z:aM Y 23 #[Q<|V ⟨e,0,W⟩,J U (p:Nat)] w λr f=>∃b cap,r=.returned (aF #[T b n cap,J U 0])/\f.ownsRow w.heap.size 81 2 (T b n cap) n i/\Below w.heap.size w f):Ja.wp Y (λex s q=>ex=ae/\(iN t j fr N h l s/\s.tmps.getD 21 F=J U (p:Nat)/\s.tmps.getD 23 F=J U 0)/\∃b cap,s.tmps.getD 22 F=T b n cap/\Fl q w.heap.size n (T b n cap) i/\Below w.heap.size w q) a w:=by obtain⟨hs,hd,e1,e2,e3,v,k,d⟩:=y;obtain⟨g,rfl,A⟩:=kJ a hs hd;rw[A]at e1 e2 e3 v k d c;rw[e1,e2,e3,v,k,d,c];unfold iN;simp only[Ja,sc,rf,ql,nz,mv,lH,kO,j6,C,o,iA,iy,iL,ja,iY];go_wp2_with fail;refine z.mono ?_;rintro r f⟨b,cap,rfl,x,B⟩;go_wp2_with fail;exact⟨b,cap,⟨rfl,rfl⟩,x⟩
def acL{a:Act}(w:u)(v t:X)(fr:Int)(N z k:Nat)(i:X)(p e n:Nat)(l:List X)(D:iN v t fr N z k a)(d:a.tmps.getD 21 F=J U (p:Nat))(c:a.tmps.getD 22 F=i)(h:a.tmps.getD 23 F=J U 0)(c0:w.cell? ⟨k,0,W⟩=V (Q<|V ⟨e,0,W⟩))(A:aM Y 23 #[Q<|V ⟨e,0,W⟩,J U (p:Nat)] w λr j=>∃b cap,r=.returned (aF #[T b n cap,J U 0])/\j.ownsRow w.heap.size 81 2 (T b n cap) n l/\Below w.heap.size w j):Hp.wp Y (λex s q=>ex=ae/\(iN v t fr N z k s/\s.tmps.getD 21 F=J U (p:Nat)/\s.tmps.getD 22 F=i/\s.tmps.getD 23 F=J U 0/\s.tmps.getD 25 F=J U 0)/\∃b cap,s.tmps.getD 24 F=T b n cap/\Fl q w.heap.size n (T b n cap) l/\Below w.heap.size w q) a w:=by obtain⟨hs,hd,e1,e2,e3,x,y,f⟩:=D;obtain⟨g,rfl,E⟩:=kJ a hs hd;rw[E]at e1 e2 e3 x y f d c h;rw[e1,e2,e3,x,y,f,d,c,h];unfold iN;simp only[Hp,sc,rf,ql,nz,mv,lH,kO,j6,C,o,iA,iy,iL,ja,iY];go_wp2_with fail;refine A.mono ?_;rintro r j⟨b,cap,rfl,B,G⟩;go_wp2_with fail;exact⟨b,cap,⟨rfl,rfl⟩,B⟩
def Ww{a:Act}(w:u)(j v:X)(fr:Int)(N r k:Nat)(p n:Nat)(i t:Option ao)(k1 k2:Nat)(y:iN j v fr N r k a)(d:a.tmps.getD 21 F=J U (p:Nat))(f:a.tmps.getD 22 F=T i n k1)(h:a.tmps.getD 24 F=T t n k2)(c:a.tmps.getD 23 F=J U 0)(b:a.tmps.getD 25 F=J U 0):Jt.wp Y (λex s x=>ex=ae/\(iN j v fr N r k s/\s.tmps.getD 21 F=J U (p:Nat)/\s.tmps.getD 22 F=T i n k1/\s.tmps.getD 24 F=T t n k2)/\x=w) a w:=by obtain⟨hs,hd,e1,e2,e3,q,l,e⟩:=y;obtain⟨g,rfl,z⟩:=kJ a hs hd;rw[z]at e1 e2 e3 q l e d f h c b;rw[e1,e2,e3,q,l,e,d,f,h,c,b];unfold iN;simp only[Jt,sc,rf,ql,nz,mv,lH,kO,j6,C,o,iA,iy,iL,ja,iY];go_wp2
def Yr{a:Act}(w:u)(j q:X)(fr:Int)(N l i:Nat)(p n:Nat)(f h:Option ao)(k1 k2:Nat)(v:iN j q fr N l i a)(c:a.tmps.getD 21 F=J U (p:Nat))(b:a.tmps.getD 22 F=T f n k1)(e:a.tmps.getD 24 F=T h n k2):FZ.wp Y (λex s t=>ex=ae/\(iN j q fr N l i s/\s.tmps.getD 21 F=J U (p:Nat)/\s.tmps.getD 22 F=T f n k1/\s.tmps.getD 24 F=T h n k2/\s.tmps.getD 26 F=J U ((0:Nat):Int))/\t=w) a w:=by obtain⟨hs,hd,e1,e2,e3,k,r,d⟩:=v;obtain⟨g,rfl,x⟩:=kJ a hs hd;rw[x]at e1 e2 e3 k r d c b e;rw[e1,e2,e3,k,r,d,c,b,e];unfold iN;simp only[FZ,sc,rf,ql,nz,mv,lH,kO,j6,C,o,iA,iy,iL,ja,iY];go_wp2
def U1{a:Act}(w:u)(k j:X)(fr:Int)(N v q:Nat)(p n:Nat)(t r:Option ao)(k1 k2:Nat)(i:Nat)(x:iN k j fr N v q a)(d:a.tmps.getD 21 F=J U (p:Nat))(e:a.tmps.getD 22 F=T t n k1)(f:a.tmps.getD 24 F=T r n k2)(c:a.tmps.getD 26 F=J U (i:Nat))(hi:i<n):BN.wp Y (λex s z=>ex=ae/\(iN k j fr N v q s/\s.tmps.getD 21 F=J U (p:Nat)/\s.tmps.getD 22 F=T t n k1/\s.tmps.getD 24 F=T r n k2/\s.tmps.getD 26 F=J U (i:Nat))/\z=w) a w:=by
 obtain⟨hs,hd,e1,e2,e3,l,h,b⟩:=x;obtain⟨g,rfl,y⟩:=kJ a hs hd;rw[y]at e1 e2 e3 l h b d e f c;rw[e1,e2,e3,l,h,b,d,e,f,c];unfold iN;have i2:(i)<(n):=by omega
 simp only[BN,vU,sc,rf,ql,nz,mv,lH,kO,j6,C,o,iA,iy,iL,ja,jG];go_wp2
def UW{a:Act}(w:u)(k j:X)(fr:Int)(N q r:Nat)(p n:Nat)(z x:Option ao)(k1 k2:Nat)(i:Nat)(v:iN k j fr N q r a)(d:a.tmps.getD 21 F=J U (p:Nat))(e:a.tmps.getD 22 F=T z n k1)(f:a.tmps.getD 24 F=T x n k2)(c:a.tmps.getD 26 F=J U (i:Nat))(hi:¬i<n):BN.wp Y (λex s t=>ex=aG 10/\(iN k j fr N q r s/\s.tmps.getD 21 F=J U (p:Nat))/\t=w) a w:=by
 obtain⟨hs,hd,e1,e2,e3,l,h,b⟩:=v;obtain⟨g,rfl,y⟩:=kJ a hs hd;rw[y]at e1 e2 e3 l h b d e f c;rw[e1,e2,e3,l,h,b,d,e,f,c];unfold iN;have i2:¬(i)<(n):=by omega
 simp only[BN,vU,sc,rf,ql,nz,mv,lH,kO,j6,C,o,iA,iy,iL,ja,jG];go_wp2
def abZ{a:Act}(w:u)(q j:X)(fr:Int)(N r l:Nat)(p n:Nat)(b1 b2:Nat)(k1 k2:Nat)(i:Nat)(k v:Int)(z:iN q j fr N r l a)(d:a.tmps.getD 21 F=J U (p:Nat))(e:a.tmps.getD 22 F=T (V ⟨b1,0,W⟩) n k1)(f:a.tmps.getD 24 F=T (V ⟨b2,0,W⟩) n k2)(c:a.tmps.getD 26 F=J U (i:Nat))(hi:i<n)(x0:w.cell? ⟨b1,i*2,W⟩=V (J U k))(A:w.cell? ⟨b1,i*2+1,W⟩=V (J U v))(D:w.cell? ⟨b2,i*2,W⟩=V (J U k))(B:w.cell? ⟨b2,i*2+1,W⟩=V (J U v)):GB.wp Y (λex s x=>ex=ae/\(iN q j fr N r l s/\s.tmps.getD 21 F=J U (p:Nat)/\s.tmps.getD 22 F=T (V ⟨b1,0,W⟩) n k1/\s.tmps.getD 24 F=T (V ⟨b2,0,W⟩) n k2/\s.tmps.getD 26 F=J U (i:Nat))/\iD (λ_=>True) w x) a w:=by obtain⟨hs,hd,e1,e2,e3,h,t,b⟩:=z;obtain⟨g,rfl,y⟩:=kJ a hs hd;rw[y]at e1 e2 e3 h t b d e f c;rw[e1,e2,e3,h,t,b,d,e,f,c];unfold iN;simp only[GB,vU,sc,rf,ql,nz,mv,lH,kO,j6,C,o,iA,iy,iL,ja,iY];go_wp2_with fail;go_quiet(fail);go_wp2_with fail;exact(iD.refl _ _).drewN _
def aaK{a:Act}(w:u)(k j:X)(fr:Int)(N v q:Nat)(p n:Nat)(t r:Option ao)(k1 k2:Nat)(i:Nat)(x:iN k j fr N v q a)(d:a.tmps.getD 21 F=J U (p:Nat))(e:a.tmps.getD 22 F=T t n k1)(f:a.tmps.getD 24 F=T r n k2)(c:a.tmps.getD 26 F=J U (i:Nat))(hi:i<10000):Fv.wp Y (λex s z=>ex=ae/\(iN k j fr N v q s/\s.tmps.getD 21 F=J U (p:Nat)/\s.tmps.getD 22 F=T t n k1/\s.tmps.getD 24 F=T r n k2/\s.tmps.getD 26 F=J U (i+1:Nat))/\z=w) a w:=by obtain⟨hs,hd,e1,e2,e3,l,h,b⟩:=x;obtain⟨g,rfl,y⟩:=kJ a hs hd;rw[y]at e1 e2 e3 l h b d e f c;rw[e1,e2,e3,l,h,b,d,e,f,c];unfold iN;simp only[Fv,vU,sc,rf,ql,nz,mv,lH,kO,j6,C,o,iA,iy,iL,ja,iY];go_wp2
def Vz{a:Act}(w:u)(d e:X)(fr:Int)(N i h:Nat)(p:Nat)(n:iN d e fr N i h a)(c:a.tmps.getD 21 F=J U (p:Nat))(q:p<10000):Fq.wp Y (λex s k=>ex=ae/\(iN d e fr N i h s/\s.tmps.getD 21 F=J U (p+1:Nat))/\k=w) a w:=by obtain⟨hs,hd,e1,e2,e3,j,f,b⟩:=n;obtain⟨g,rfl,l⟩:=kJ a hs hd;rw[l]at e1 e2 e3 j f b c;rw[e1,e2,e3,j,f,b,c];unfold iN;simp only[Fq,rf,ql,nz,mv,lH,kO,j6,C,o,iA,iy,iL,ja,iY];go_wp2
def PO{a:Act}(w:u)(e i:X)(fr:Int)(N h f:Nat)(j:iN e i fr N h f a):Ds.wp Y (λex s k=>ex=.ret/\(s.defers=[]/\s.tmps.getD 8 F=aj Z)/\k=w) a w:=by obtain⟨hs,hd,e1,e2,e3,d,c,b⟩:=j;obtain⟨g,rfl,l⟩:=kJ a hs hd;rw[l]at e1 e2 e3 d c b;rw[e1,e2,e3,d,c,b];simp only[Ds,ql,nz,mv,lH,kO,j6,C,o,iy,iY];go_wp2
def F9{w:u}{b:Nat}{e:TypeId}{n:Nat}{v:X}{a:List X}(h:w.ownsRow b e x v n a)(hk:iD (λ_=>True) w i):i.ownsRow b e x v n a:=vf h λg c=>hk.block g trivial (oI h c).2.1
section
variable{w:u}{v1 v2:X}{fr:Int}{N G1 G2:Nat}
def P0{l:List<|Nat×Int}{n b1 b2 k1 k2:Nat}{q j:Option ao}(S:n=l.length)(K:n<=100)(P:w.ownsRow b1 81 2 (T q n k1) n<|mL l)(o2:w.ownsRow b2 81 2 (T j n k2) n<|mL l){a:Act}(f:iN v1 v2 fr N G1 G2 a)(e:a.tmps.getD 21 F=J U (x:Nat))(b:a.tmps.getD 22 F=T q n k1)(d:a.tmps.getD 24 F=T j n k2)(c:a.tmps.getD 26 F=J U ((0:Nat):Int)):(an 10<|ar vU).wp Y (λex s z=>ex=ae/\(iN v1 v2 fr N G1 G2 s/\s.tmps.getD 21 F=J U (x:Nat))/\iD (λ_=>True) w z) a w:=by
 refine wp_block<|wp_loop (λs z=>∃i:Nat,i<=n/\(iN v1 v2 fr N G1 G2 s/\s.tmps.getD 21 F=J U (x)/\s.tmps.getD 22 F=T q n k1/\s.tmps.getD 24 F=T j n k2/\s.tmps.getD 26 F=J U (i))/\iD (λ_=>True) w z) (λs _=>n-(intOf<|s.tmps.getD 26 F).toNat) ⟨0,by omega,⟨f,e,b,d,c⟩,iD.refl _ _⟩ ?_;rintro s wr⟨i,hi,⟨f,e,b,d,c⟩,hk⟩;have t:=c;rw[Ss];by_cases g:i<n;.refine wp_seq<|iM (U1 wr v1 v2 fr N G1 G2 x n q j k1 k2 i f e b d c g) ?_;rintro ex s1 w1⟨rfl,⟨f,e,b,d,c⟩,h⟩;rw[h];obtain⟨M,c1,B,R,D⟩:=yv (F9 P hk) (by omega);obtain⟨O,c2,H,l2,G⟩:=yv (F9 o2 hk) (by omega);rw[B]at b;rw[H]at d;obtain⟨r,L⟩:∃r,l[i]?=V r:=⟨l[i]'(by omega),List.getElem?_eq_getElem<|by omega⟩;obtain⟨I,k⟩:=zL L;refine wp_seq<|wp_block<|iM (abZ wr v1 v2 fr N G1 G2 x n M O c1 c2 i r.1 r.2 f e b d c g (D _ _ I) (D _ _ k) (G _ _ I)<|G _ _ k) ?_;rintro ex s2 E⟨rfl,⟨f,e,b,d,c⟩,A⟩;show Fv.wp Y _ s2 E;refine iM (aaK E v1 v2 fr N G1 G2 x n _ _ c1 c2 i f e b d c<|by omega) ?_;rintro ex s3 w3⟨rfl,⟨f,e,b,d,c⟩,v⟩;rw[v];rw[<-B]at b;rw[<-H]at d;refine⟨⟨i+1,by omega,⟨f,e,b,d,c⟩,hk.trans A⟩,?_⟩;show n-(intOf<|s3.tmps.getD 26 F).toNat<n-(intOf<|s.tmps.getD 26 F).toNat;rw[c,t];simp only[intOf];omega
 .refine wp_seq<|iM (UW wr v1 v2 fr N G1 G2 x n q j k1 k2 i f e b d c g) ?_;rintro ex s1 w1⟨rfl,y,h⟩;rw[h];exact⟨rfl,y,hk⟩
variable{z1 z2:Nat}{O:Nat->Nat}{e1 e2:Nat}{c:iB}{vB1 vL1 vB2 vL2:X}{K1 R1 K2 R2:Nat}{f1 f2:Nat->X}{E1 E2:iE}{s0:Cells}{aL:Option ao}{capL:Nat}
def Y9(h1:iS z1 O w e1 c vB1 vL1 K1 R1 f1 E1)(h2:iS z2 O w e2 c vB2 vL2 K2 R2 f2 E2)(i1:Inv c s0 E1)(i2:Inv c s0 E2)(d1:∀i,i<c.D.nl->jZ c E1 i=Z)(d2:∀i,i<c.D.nl->jZ c E2 i=Z)(am:w.cell? ⟨G1,0,W⟩=V (Q<|V ⟨e1,0,W⟩))(aa:w.cell? ⟨G2,0,W⟩=V (Q<|V ⟨e2,0,W⟩))(m4:w.cell? ⟨N,4,W⟩=V (T aL c.D.nl capL)){a:Act}(h:iN v1 v2 fr N G1 G2 a)(d:a.tmps.getD 16 F=J U ((0:Nat):Int)):(an 6<|ar uc).wp Y (λex s K=>ex=ae/\iN v1 v2 fr N G1 G2 s/\iD (λ_=>True) w K) a w:=by
 have v:=i1.H.G.nb;have y:=i1.H.G.nl;have L:=λp j x hx=>az ((i1.e.part p j).low x hx) (i1.e.part p j).mN;have al:=λp j=>aN (i1.e.part p j).win i1.H.W.2;have ac:=λp j x hx=>az ((i2.e.part p j).low x hx) (i2.e.part p j).mN;have ap:=λp j=>aN (i2.e.part p j).win i2.H.W.2;refine wp_block<|wp_loop (λs K=>∃i:Nat,i<=c.D.nl/\(iN v1 v2 fr N G1 G2 s/\s.tmps.getD 16 F=J U (i))/\iD (λ_=>True) w K) (λs _=>c.D.nl-(intOf<|s.tmps.getD 16 F).toNat) ⟨0,by omega,⟨h,d⟩,iD.refl _ _⟩ ?_;rintro s wr⟨i,hi,⟨h,d⟩,hk⟩;have I:=d;rw[VF];by_cases g:i<c.D.nl;.refine wp_seq<|iM (Wc wr v1 v2 fr N G1 G2 i _ capL aL h d (uG hk m4) g) ?_;rintro ex s1 w1⟨rfl,⟨h,d⟩,n⟩;rw[n];obtain⟨r1,r2,r3,r4⟩:=Yl i1 i2 g (d1 i g)<|d2 i g;have q1:=AY _ _ _ _ _ _ _ _ _ _ _ (h1.kQ hk λ_ _=>rfl) v y i g L al;simp only[wV]at q1;rw[r1]at q1;refine wp_seq<|wp_block ?_;rw[WN];refine wp_seq<|iM (afx wr v1 v2 fr N G1 G2 i e1 Z _ _ _ _ _ h d (uG hk am) q1) ?_;rintro ex s2 E⟨rfl,⟨h,d,k⟩,w3,R,q,t⟩;have b:=km w3 [aj Z,aj (kH c E1 i).ab,J U<|(kH c E1 i).r 0,J U<|(kH c E1 i).r 1,J U<|(kH c E1 i).r 2,J U<|(kH c E1 i).r 3] 75;(have aB:iD (λ_=>True) wr E:=by rw[t];exact((iD.jF R).alloc _));replace b:iJ E w3.heap.size 75 _ _:=b.block (by rw[t]);generalize w3.heap.size=W1 at*;have l:=hk.trans aB;have q2:=AY _ _ _ _ _ _ _ _ _ _ _ (h2.kQ l λ_ _=>rfl) v y i g ac ap;simp only[wV]at q2;rw[r2,<-r3,<-r4]at q2;refine wp_seq<|iM (SB E v1 v2 fr N G1 G2 W1 i e2 Z _ _ _ _ _ h d q k (uG l aa) q2) ?_;rintro ex s3 A⟨rfl,⟨h,d,q,k,P⟩,w5,ad,S,B⟩;have f:=km w5 [aj Z,aj (kH c E1 i).ab,J U<|(kH c E1 i).r 0,J U<|(kH c E1 i).r 1,J U<|(kH c E1 i).r 2,J U<|(kH c E1 i).r 3] 75;(have z:iD (λ_=>True) E A:=by rw[B];exact((iD.jF ad).alloc _));replace f:iJ A w5.heap.size 75 _ _:=f.block (by rw[B]);replace b:=b.block (z.block W1 trivial b.lt);generalize w5.heap.size=W2 at*;refine iM (SD A v1 v2 fr N G1 G2 i W1 W2 (kH c E1 i).ab ((kH c E1 i).r 0) ((kH c E1 i).r 1) ((kH c E1 i).r 2) ((kH c E1 i).r 3) h d q k S P (b.cell<|by simp) (b.cell<|by simp) (b.cell<|by simp) (b.cell<|by simp) (b.cell<|by simp) (b.cell<|by simp) (f.cell<|by simp) (f.cell<|by simp) (f.cell<|by simp) (f.cell<|by simp) (f.cell<|by simp)<|f.cell<|by simp) ?_;rintro ex s4 w6⟨rfl,⟨h,d⟩,aw⟩;rw[aw];show Fy.wp Y _ s4 A;refine iM (QD A v1 v2 fr N G1 G2 i h d<|by omega) ?_;rintro ex s5 w7⟨rfl,⟨h,d⟩,av⟩;rw[av];refine⟨⟨i+1,by omega,⟨h,d⟩,l.trans z⟩,?_⟩;show c.D.nl-(intOf<|s5.tmps.getD 16 F).toNat<c.D.nl-(intOf<|s.tmps.getD 16 F).toNat;rw[d,I];simp only[intOf];omega
 .refine wp_seq<|iM (Ql wr v1 v2 fr N G1 G2 i _ capL aL h d (uG hk m4) g) ?_;rintro ex s1 w1⟨rfl,M,n⟩;rw[n];exact⟨rfl,M,hk⟩
def S2(h1:iS z1 O w e1 c vB1 vL1 K1 R1 f1 E1)(h2:iS z2 O w e2 c vB2 vL2 K2 R2 f2 E2)(i1:Inv c s0 E1)(i2:Inv c s0 E2)(d1:∀i,i<c.D.nl->jZ c E1 i=Z)(d2:∀i,i<c.D.nl->jZ c E2 i=Z)(aa:w.cell? ⟨G1,0,W⟩=V (Q<|V ⟨e1,0,W⟩))(M:w.cell? ⟨G2,0,W⟩=V (Q<|V ⟨e2,0,W⟩))(c7:w.cell? ⟨G1,7,W⟩=V (J U ((c.D.nb+1:Nat):Int))){a:Act}(d:iN v1 v2 fr N G1 G2 a)(b:a.tmps.getD 21 F=J U ((0:Nat):Int)):(an 8<|ar rf).wp Y (λex s P=>ex=ae/\iN v1 v2 fr N G1 G2 s/\iD (λ_=>True) w P) a w:=by
 have v:=i1.H.G.nb;have I:∀p,p<=c.D.nb->(E1.part p).n<=100000:=λp q=>by have:=(i1.e.part p q).cnt;have:=(i1.e.part p q).mN;have:=i1.H.G.nl;omega
 have A:∀p,p<=c.D.nb->(E2.part p).n<=100000:=λp q=>by have:=(i2.e.part p q).cnt;have:=(i2.e.part p q).mN;have:=i1.H.G.nl;omega
 refine wp_block<|wp_loop (λs P=>∃p:Nat,p<=c.D.nb+1/\(iN v1 v2 fr N G1 G2 s/\s.tmps.getD 21 F=J U (p))/\iD (λ_=>True) w P) (λs _=>c.D.nb+1-(intOf<|s.tmps.getD 21 F).toNat) ⟨0,by omega,⟨d,b⟩,iD.refl _ _⟩ ?_;rintro s wr⟨p,q,⟨d,b⟩,hk⟩;have z:=b;rw[Un];by_cases x:p<c.D.nb+1;.refine wp_seq<|iM (TQ wr v1 v2 fr N G1 G2 p c.D.nb d b (uG hk c7) x) ?_;rintro ex s1 w1⟨rfl,⟨d,b⟩,l⟩;rw[l];(have h:p<=c.D.nb:=by omega);have ad:=abD i1 i2 d1 d2 h 100;have t:(jC (E1.part p).hs (E1.part p).vl 100).length<=100:=xV _ _ _;have q1:=CE _ _ _ _ _ _ _ _ _ _ _ (h1.kQ hk λ_ _=>rfl) v p h<|I p h;refine wp_seq<|wp_block ?_;rw[TJ];refine wp_seq<|iM (aef wr v1 v2 fr N G1 G2 p e1 _ _ d b (uG hk aa) q1) ?_;rintro ex s2 w2⟨rfl,⟨d,b,k⟩,a1,k1,f,y,E⟩;unfold Fl at y;have j:=hk.trans<|iD.jF E;have q2:=CE _ _ _ _ _ _ _ _ _ _ _ (h2.kQ j λ_ _=>rfl) v p h<|A p h;rw[<-ad]at q2;refine wp_seq<|iM (acL w2 v1 v2 fr N G1 G2 _ p e2 _ _ d b f k (uG j M) q2) ?_;rintro ex s3 w3⟨rfl,⟨d,b,f,k,L⟩,a2,k2,g,o2,r⟩;unfold Fl at o2;have am:=j.trans<|iD.jF r;replace y:=F9 y (iD.jF r);refine wp_seq<|iM (Ww w3 v1 v2 fr N G1 G2 p _ a1 a2 k1 k2 d b f g k L) ?_;rintro ex s4 w4⟨rfl,⟨d,b,f,g⟩,R⟩;rw[R];refine wp_seq<|iM (Yr w3 v1 v2 fr N G1 G2 p _ a1 a2 k1 k2 d b f g) ?_;rintro ex s5 w5⟨rfl,⟨d,b,f,g,ac⟩,K⟩;rw[K];refine iM (P0 rfl t y o2 d b f g ac) ?_;rintro ex s6 w6⟨rfl,⟨d,b⟩,S⟩;show Fq.wp Y _ s6 w6;refine iM (Vz w6 v1 v2 fr N G1 G2 p d b<|by omega) ?_;rintro ex s7 w7⟨rfl,⟨d,b⟩,al⟩;rw[al];refine⟨⟨p+1,by omega,⟨d,b⟩,am.trans S⟩,?_⟩;show c.D.nb+1-(intOf<|s7.tmps.getD 21 F).toNat<c.D.nb+1-(intOf<|s.tmps.getD 21 F).toNat;rw[b,z];simp only[intOf];omega
 .refine wp_seq<|iM (Rn wr v1 v2 fr N G1 G2 p c.D.nb d b (uG hk c7) x) ?_;rintro ex s1 w1⟨rfl,B,l⟩;rw[l];exact⟨rfl,B,hk⟩
def adi(n:iS z1 O w e1 c vB1 vL1 K1 R1 f1 E1)(p:iS z2 O w e2 c vB2 vL2 K2 R2 f2 E2)(i1:Inv c s0 E1)(i2:Inv c s0 E2)(d1:∀i,i<c.D.nl->jZ c E1 i=Z)(d2:∀i,i<c.D.nl->jZ c E2 i=Z)(e:w.cell? ⟨G1,0,W⟩=V (Q<|V ⟨e1,0,W⟩))(d:w.cell? ⟨G2,0,W⟩=V (Q<|V ⟨e2,0,W⟩))(c7:w.cell? ⟨G1,7,W⟩=V (J U ((c.D.nb+1:Nat):Int)))(r:w.cell? ⟨N,4,W⟩=V (T aL c.D.nl capL)){a:Act}(b:iN v1 v2 fr N G1 G2 a):nz.wp Y (λex s f=>ex=.ret/\s.defers=[]/\s.tmps.getD 8 F=aj Z) a w:=by rw[acO];refine wp_seq<|wp_seq<|iM (abu w v1 v2 fr N G1 G2 b) ?_;rintro ex s f⟨rfl,⟨b,g⟩,j⟩;rw[j];refine iM (Y9 n p i1 i2 d1 d2 e d r b g) ?_;rintro ex s f⟨rfl,b,hk⟩;show ql.wp Y _ s f;rw[XN];refine wp_seq<|wp_seq<|iM (afG f v1 v2 fr N G1 G2 b) ?_;rintro ex s l⟨rfl,⟨b,k⟩,h⟩;rw[h];refine iM (S2 (n.kQ hk λ_ _=>rfl) (p.kQ hk λ_ _=>rfl) i1 i2 d1 d2 (uG hk e) (uG hk d) (uG hk c7) b k) ?_;rintro ex s l⟨rfl,b,q⟩;show Ds.wp Y _ s l;refine iM (PO l v1 v2 fr N G1 G2 b) ?_;grind
end
end
end Go.Proofs.YtldeiiffabfmeaaGreatDoor
