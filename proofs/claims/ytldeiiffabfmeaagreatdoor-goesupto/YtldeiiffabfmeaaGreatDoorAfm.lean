/- - -/
import GoSem.Step
import Derived.RunT
import Derived.Laws.Sem
import Derived.Below
import Derived.Conc.WgGenN2
import Derived.Conc.WgGenN3
import Derived.Test.YtldeiiffabfmeaaGreatDoorAdm
set_option linter.all false
set_option maxRecDepth 100000
set_option maxHeartbeats 4000000
open Go renaming Value->F,TypeId->O,World->U,Addr->X,MapEntry->Y,Program->z,Event->ak,undef->aK,IntKind->bd,BoundsCode->bl
open Option renaming some->I,none->N
open Bool renaming true->J,false->M,and_eq_true->bq,false_eq_true->bF,not_eq_true'->bQ
open Or renaming inr->K,inl->V
open Go.Sem renaming runT->W,pure->au,bind->az,store->bh,choose->bj,shape->bA,frozen->bB,getObj->bC,setObj->bD,program->bE,run->bY
open Nat renaming le_refl->Z,zero_le->aF,le_trans->aX,lt_or_ge->bP,lt_of_lt_of_le->bV
open Go.ConcN.RW renaming refl->ae
open Go.Value renaming pointer->ah,slice->an,map->ao,agg->aq,tuple->ar,bool->aM,int->aN,string->aY,nilIface->aZ,iface->bg,nilFunc->bw,cells->bz
open Go.Obj renaming cells->ai,map->aj,isChan->ay,number->aA
open Go.Mode renaming plain->ax,atomic->aQ
open Go.Instr renaming sliceBound->aD,sliceBounds->aE,fill->aU,fieldAt->bG,indexAt->bH,sliceAt->bI,makeSlice->bJ,build->bK,buildSlice->bM,extract->bN,sureAddr->cg,loadAt->cj,storeAt->ck,alloc->cx,box->cz,makeMap->cD,makeFunc->cE
open List renaming mem_filter->aG,mem_append->aH,mem_of_getElem?->aI,foldl->aV,mem_singleton->aW,getElem?_eq_getElem->bm,getElem?_eq_some_iff->bn,length_nil->bu,map_cons->bO,length_cons->bR
open Go.Conc.Goes renaming cases->aJ,stop->bT
open Go.World renaming cell?->aP,frozen?->bX
open Array renaming getD_eq_getD_getElem?->bU,range->cA,foldl_toList->cF,toList_zipIdx->cG
variable{w v x:Nat}{y a b c:F}{d e f g:Array F}{h i j l m o:U}{p q:Type}{r s:X}{t A B E:List F}{H:O}{Q T:Go.Obj}
namespace Go.Proofs.YtldeiiffabfmeaaGreatDoor
section
def BG(E:iE)(p q i:Nat):Prop:=(∃x∈(E.part q).iU p,x.iz=i)\/uT (E.part q) i p=J\/jh (E.part q) i=J
def xQ(E:iE)(p q i:Nat):Prop:=(∃e∈(E.part p).opn,e.iz=i/\e.iF q=J)\/jh (E.part p) i=J
structure kl(c:iB)(E:iE):Prop where
 zG:∀p q i,p<=c.D.nb->q<=c.D.nb->p≠q->jE c.D i p=true->jE c.D i q=true->xQ E p q i->BG E p q i
def qY{P:Part}{q:Nat}:uT P w q=J↔∃x∈P.taken,x.iz=w/\x.fr=q:=by simp[uT]
def EU{D:iT}{P:Part}{e:iG}:nR D w P e=J↔∀q,q<=D.nb->q≠w->jE D e.iz q=J->e.iF q=J/\uT P e.iz q=J:=by
 constructor;.intro h q d c g;have:=nO h (k:=q) (by omega);grind
 .intro h;(have a:∀n,n<=D.nb+1->jO (λq=>q==w||!jE D e.iz q||(e.iF q&&uT P e.iz q)) n=J:=by intro n;induction n with|zero=>intro _;rfl|succ n b=>intro f;simp only[jO,b<|by omega,Bool.true_and];grind);exact a _<|Z _
def kl.set{c:iB}{E:iE}(h:kl c E){P:Part}(hs:∀q i,jE c.D i w=J->((∃e∈P.opn,e.iz=i/\e.iF q=J)\/jh P i=J)->xQ E w q i)(o:∀q i,q≠w->jE c.D i w=J->BG E q w i->(∃x∈P.iU q,x.iz=i)\/uT P i q=J\/jh P i=J):kl c {E with part:=upd E.part w P}:=by
 refine⟨λa b i l k f j g d=>?_⟩;have m:xQ E a b i:=by unfold xQ at d;by_cases e:a=w;(.subst e;simp only[upd_same]at d;grind);.simp only[jq _ _ e]at d;exact d
 have n:=h.zG a b i l k f j g m;unfold BG;by_cases e:b=w;.subst e;simp only[upd_same];grind
 .simp only[jq _ _ e];exact n
def kl.start(c:iB)(f:Nat)(fs:Nat->Int):kl c<|mA c.D f fs:=by
 refine⟨λa b i m l j k g d=>?_⟩;exfalso;rcases d with⟨e,h,_⟩|hd;.simp[mA,qd]at h
 .have:=(mg.1 hd).1;have:=(ui c.D a 0<|aF _).2.2.1 i (aF _) this;grind
def kl.XI{c:iB}{s0:Cells}{E:iE}(h:kl c E)(B:mK c s0 w<|E.part w){e:iG}(v:e∈(E.part w).opn){m:jc}(hd:∀j,jh (pF c.D w e.iz m<|E.part w) j=J↔jh (E.part w) j=J\/j=e.iz)(hs:∀q,q<=c.D.nb->q≠w->jE c.D e.iz q=J->e.iF q=J):kl c<|kS c.D w E (e.iz,m):=by
 have A:kl c {E with part:=upd E.part w<|pF c.D w e.iz m<|E.part w}:=by refine⟨λa b i y t l o k d=>?_⟩;(have g:xQ E a b i:=by unfold xQ at d;by_cases n:a=w;(.subst n;simp only[upd_same]at d;rcases d with⟨x,r,g,f⟩|d;(.exact V ⟨x,(aG.1 r).1,g,f⟩);.rcases(hd i).1 d with g|g;(.exact K g);.subst g;exact V ⟨e,v,rfl,hs b t (λh=>l h.symm) k⟩);.simp only[jq _ _ n]at d;exact d);have f:=h.zG a b i y t l o k g;unfold BG;by_cases n:b=w;(.subst n;simp only[upd_same];by_cases hi:i=e.iz;(.grind);.rcases f with f|f|f;(.exact V f);(.obtain⟨x,r,s,u⟩:=qY.1 f;refine K<|V<|qY.2 ⟨x,aG.2 ⟨r,?_⟩,s,u⟩;simp[s,hi]);grind);.simp only[jq _ _ n];exact f
 exact⟨A.zG⟩
def kl.vz{c:iB}(H:jg c){s0:Cells}(n:w<=c.D.nb):∀(l:List iG)(f:iG->jc)(E:iE),kl c E->mK c s0 w (E.part w)->(∀e∈l,e∈(E.part w).opn/\e.read=J/\As c.D s0 e.iz (f e)/\∀q,q<=c.D.nb->q≠w->jE c.D e.iz q=J->e.iF q=J)->(l.map (·.iz)).Pairwise (·≠·)->kl c ((l.map λe=>(e.iz,f e)).foldl (kS c.D w) E)|[],_,E,h,_,_,_=>h|e::l,f,E,h,j,m,a=>by simp only[bO,aV];obtain⟨k,o,y,d⟩:=m e (by simp);obtain⟨s,t⟩:=j.done H k o y;simp only[bO,List.pairwise_cons]at a;have v:=h.XI j k t d;refine kl.vz H (s0:=s0) n l f _ v ?_ (λx u=>?_) a.2;(.show mK c s0 w (upd E.part w (pF c.D w e.iz (f e)<|E.part w) w);rw[upd_same];exact s);.obtain⟨r,g,i,b⟩:=m x (by simp[u]);refine⟨?_,g,i,b⟩;show x∈(upd E.part w (pF c.D w e.iz (f e)<|E.part w) w).opn;rw[upd_same];show x∈(E.part w).opn.filter _;grind
def kl.pick{c:iB}(H:jg c){s0:Cells}{E E':iE}(hI:mo c s0 E)(h:kl c E){k q:Nat}(hp:w<=c.D.nb)(e:jI c E w k q=I E'):kl c E':=by
 have s:=hI.part w hp;unfold jI at e;split at e;.cases d:lL c w (E.part w)with|none=>rw[d]at e;cases e|some P=>rw[d]at e;injection e with e;subst e;have B:=λ{i}=>Of H s d (i:=i);unfold lL at d;split at d;(case isFalse=>cases d);rename_i g;injection d with d;obtain⟨n1,n2,n3,n4⟩:=ui c.D w ((E.part w).up+1) g.1;refine h.set (λr i v hs=>?_) λr i L v g=>?_;(.rcases hs with⟨x,m,n,f⟩|hs;(.rw[<-d]at m;simp only[aH,aW]at m;rcases m with m|rfl;(.exact V ⟨x,m,n,f⟩);.cases f);.exact K<|B v hs);.rw[<-d];rcases g with g|g|g;(.exact V g);(.exact K<|V g);.refine K<|K ?_;obtain⟨a,b⟩:=mg.1 g;rw[mg];refine⟨by grind,?_⟩;(have:(E.part w).up≠i:=by omega);simp only[lX,List.any_append,List.any_cons,List.any_nil,Bool.or_false,Bool.or_eq_false_iff,pD];exact⟨b,by simpa using this⟩
 split at e;.cases d:lK c w (E.part w)with|none=>rw[d]at e;cases e|some P=>rw[d]at e;injection e with e;subst e;have B:=Ma d;unfold lK at d;split at d;(case isFalse=>cases d);injection d with d;refine h.set (λr i v hs=>?_) λr i L v g=>?_;(.rcases hs with⟨x,m,n,f⟩|hs;(.rw[<-d]at m;rcases mem_modify m with m|⟨e0,C,rfl⟩;(.exact V ⟨x,m,n,f⟩);.exact V ⟨e0,aI C,n,f⟩);.exact K<|by grind);.rcases g with g|g|g;(.exact V<|by rw[<-d];exact g);(.exact K<|V<|by rw[<-d];exact g);grind
 split at e;.split at e;(case isFalse=>cases e);rename_i hq;unfold n7 at e;split at e;(case isFalse=>cases e);rename_i g;obtain⟨S,ac⟩:=g;injection e with e;subst e;generalize aa:lM c.D q (E.part w).opn=T at*;obtain⟨x,m⟩:∃x,(E.part w).opn[T]?=I x:=⟨_,bm S⟩;(have G:om w (E.part w).opn T=⟨w,x.iz,x.kept⟩:=by simp only[om,m]);rw[G];refine⟨λa b i ha hb A Q R j=>?_⟩;by_cases u:a=w/\b=q/\i=x.iz;(.obtain⟨rfl,rfl,rfl⟩:=u;left;refine⟨⟨a,x.iz,x.kept⟩,?_,rfl⟩;simp only[upd_same,mW];simp);. (have n:xQ E a b i:=by unfold xQ at j;by_cases e1:a=q;(.subst e1;simp only[upd_same,mW]at j;exact j);.simp only[jq _ _ e1]at j;by_cases e2:a=w;(.subst e2;simp only[upd_same]at j;rcases j with⟨y,o,n,f⟩|j;(.rcases mem_modify o with o|⟨e0,C,rfl⟩;(.exact V ⟨y,o,n,f⟩);.rw[m]at C;injection C with C;subst C;change upd x.iF q J b=J at f;by_cases e3:b=q;(.exact absurd ⟨rfl,e3,n.symm⟩ u);.rw[jq _ _ e3]at f;exact V ⟨x,aI m,n,f⟩);.exact K<|by rw[<-Hk q T];exact j);.simp only[jq _ _ e2]at j;exact j);have f:=h.zG a b i ha hb A Q R n;unfold BG;by_cases e1:b=q;(.subst e1;simp only[upd_same,mW];rcases f with⟨y,o,t⟩|f|f;(.left;refine⟨y,?_,t⟩;unfold upd;grind);(.exact K<|V f);.exact K<|K f);.simp only[jq _ _ e1];by_cases e2:b=w;(.subst e2;simp only[upd_same];rcases f with f|f|f;(.exact V f);(.exact K<|V f);.exact K<|K<|by rw[Hk];exact f);.simp only[jq _ _ e2];exact f
 split at e;.split at e;(case isFalse=>cases e);cases d:kX q (E.part w)with|none=>rw[d]at e;cases e|some P=>rw[d]at e;injection e with e;subst e;have B:=OD d;unfold kX at d;split at d;(.cases d);rename_i x l hm;injection d with d;refine h.set (λr i v hs=>?_) λr i L v g=>?_;(.rw[<-d]at hs;exact hs);.rcases g with⟨y,o,t⟩|g|g;(.rw[<-d];by_cases e2:r=q;(.subst e2;rw[hm]at o;rcases List.mem_cons.1 o with rfl|o;(.refine K<|V<|qY.2 ⟨y,?_,t,((s.sF r y<|by rw[hm];simp).1)⟩;simp);.left;exact⟨y,by simp only[upd_same];exact o,t⟩);.left;exact⟨y,by simp only[jq _ _ e2];exact o,t⟩);(.right;left;obtain⟨y,o,t,h4⟩:=qY.1 g;rw[<-d];exact qY.2 ⟨y,by simp[o],t,h4⟩);grind
 split at e;.unfold pK at e;split at e;(case isTrue=>cases e);injection e with e;subst e;refine kl.vz H hp (ky c w<|E.part w) (uC c.D<|E.part w) E h s (λx m=>?_)<|KE s;obtain⟨n,f,t⟩:=ux m;exact⟨n,f,s.C7 H n f t,λr L A v=>(EU.1 t r L A v).1⟩
 .cases e
def xy(c:iB)(E:iE)(p q:Nat):jI c E p 3 q=if q<=c.D.nb/\p≠q then n7 c p q E else N:=rfl
def zE(c:iB)(E:iE)(p q:Nat):jI c E p 5 q=pK c p E:=rfl
def OJ{p:Nat->Bool}{n:Nat}(h:p 0=J)(a:0<n):pC p n 0=0:=by cases n with|zero=>omega|succ n=>unfold pC;rw[if_pos h]
def Oi{c:iB}{s0:Cells}{E:iE}(f:mo c s0 E)(hi:w<c.D.nl)(hd:∀j,j<w->jZ c E j=J)(b:v<=c.D.nb){e:iG}(a:e∈(E.part v).opn):w<=e.iz:=by
 rcases bP e.iz w with h|h;.have d:=xA.1 (hd _ h) v b<|(f.part v b).tk e a;have:=(mg.1 d).2;rw[ve.2 ⟨e,a,rfl⟩]at this;cases this
 .exact h
def vH{c:iB}{s0:Cells}{E:iE}(b:mo c s0 E)(hi:w<c.D.nl)(hd:∀j,j<w->jZ c E j=J)(a:v<=c.D.nb){e:iG}(h:e∈(E.part v).opn)(g:e.iz=w):(E.part v).opn[0]?=I e:=by obtain⟨j,d⟩:=List.getElem?_of_mem h;cases j with|zero=>exact d|succ j=>exfalso;obtain⟨b2,e2⟩:=bn.1 d;have f:=List.pairwise_iff_getElem.1 (b.part v a).wN 0 (j+1) (by simp;omega) (by simpa using b2) (by omega);simp only[List.getElem_map,e2]at f;have:=Oi b hi hd a<|List.getElem_mem (n:=0) (by omega);omega
def H5{c:iB}(H:jg c){s0:Cells}{E:iE}(g:mo c s0 E)(hi:w<c.D.nl)(hd:∀j,j<w->jZ c E j=J)(f:v<=c.D.nb)(o:jE c.D w v=J)(q:¬w<(E.part v).up):(E.part v).up=w/\(E.part v).opn=[]:=by
 have k:=g.part v f;have d:(E.part v).up=w:=by rcases bP (E.part v).up w with h|h;(.have d:=xA.1 (hd _ h) v f<|k.zF (by omega);have:=(mg.1 d).1;omega);.omega
 refine⟨d,?_⟩;cases n:(E.part v).opn with|nil=>rfl|cons e l=>(have m:e∈(E.part v).opn:=by rw[n];simp);have a:=Oi g hi hd f m;have b:=k.low e m;omega
def Gq{c:iB}(H:jg c){p:Nat}{P:Part}(a:P.up<c.D.nl)(d:P.opn=[]):∃b,lL c p P=I b:=by unfold lL;rw[if_pos ⟨a,by rw[d];have:=H.W.1;simp;omega⟩];simp
def Gz{c:iB}{p:Nat}{P:Part}{e:iG}(h:P.opn[0]?=I e)(b:e.read=M):nt c.D p P.opn=0/\∃d,lK c p P=I d:=by have a:=(bn.1 h).1;have:nt c.D p P.opn=0:=OJ (by simp[pf,n6,yC,tH,h,b]) a;refine⟨this,?_⟩;unfold lK;simp_all
def GY{c:iB}{q:Nat}{l:List iG}{e:iG}(h:l[0]?=I e)(a:nX c.D q e=J):lM c.D q l=0:=OJ (by simp[n6,h,a]) (bn.1 h).1
def D9{P:Part}(b:w<P.up)(a:jh P w=M):∃e∈P.opn,e.iz=w:=by cases h:lX P.opn w with|true=>exact ve.1 h|false=>rw[mg.2 ⟨b,h⟩]at a;cases a
def iZ(c:iB)(E:iE)(x:Nat×Nat×Nat):iE:=(jI c E x.1 x.2.1 x.2.2).getD E
def jm(c:iB)(l:List<|Nat×Nat×Nat)(E:iE):iE:=l.foldl (iZ c) E
def I3(D:iT)(fs:Nat->Int)(p k:Nat):∀n,iW (qa D.nb D.fb fs n p,qg D.nb D.fb fs n p) k=if kN D k=p then iW (ly fs n,lS fs n) k else N|0=>by simp[iW,qa,ly]|n+1=>by have c:=I3 D fs p k n;by_cases e:fs (2*n)=k;(. (have a:j8 D.nb D.fb (fs<|2*n)=kN D k:=by rw[e];rfl);by_cases h:kN D k=p;(.have b:qa D.nb D.fb fs (n+1) p k=J:=if_pos ⟨a.trans h,e⟩;have d:qg D.nb D.fb fs (n+1) p k=fs (2*n+1):=if_pos ⟨a.trans h,e⟩;have b1:ly fs (n+1) k=J:=if_pos e;have b2:lS fs (n+1) k=fs (2*n+1):=if_pos e;simp only[iW,b,d,b1,b2,h,if_true]);.have b:qa D.nb D.fb fs (n+1) p k=qa D.nb D.fb fs n p k:=if_neg λx=>h<|a.symm.trans x.1;have d:qg D.nb D.fb fs (n+1) p k=qg D.nb D.fb fs n p k:=if_neg λx=>h<|a.symm.trans x.1;rw[if_neg h]at c⊢;simp only[iW]at c⊢;grind);.have b:qa D.nb D.fb fs (n+1) p k=qa D.nb D.fb fs n p k:=if_neg λx=>e x.2;have d:qg D.nb D.fb fs (n+1) p k=qg D.nb D.fb fs n p k:=if_neg λx=>e x.2;have b1:ly fs (n+1) k=ly fs n k:=if_neg e;have b2:lS fs (n+1) k=lS fs n k:=if_neg e;simp only[iW]at c⊢;grind
def JW{fs:Nat->Int}{k:Nat}:∀{n:Nat},(∀j,j<n->0<=fs (2*j)/\fs (2*j)<=99)->ly fs n k=J->k<100|0,_,h=>by cases h|n+1,hk,h=>by unfold ly at h;split at h;(.grind);.exact JW (λj a=>hk j<|by omega) h
def Sp{c:iB}(H:jg c)(a:Nat)(fs:Nat->Int)(hk:∀j,j<a->0<=fs (2*j)/\fs (2*j)<=99):mo c (ly fs a,lS fs a)<|mA c.D a fs:=by
 have l:∀p i:Nat,jE c.D i p=J->jh (qd c.D a fs p) i=M:=by intro p i g;cases e:jh (qd c.D a fs p) i with|false=>rfl|true=>have:=(ui c.D p 0<|aF _).2.2.1 i (aF _) (mg.1 e).1;grind
 refine⟨λp o=>?_,λp i o hi g hd=>?_⟩;.obtain⟨n1,r,w,u⟩:=ui c.D p 0<|aF _;refine⟨List.Pairwise.nil,λe b=>by simp[mA,qd]at b,λe b=>by simp[mA,qd]at b,r,u,by simp[mA,qd],λq=>by simp[mA,qd],by simp[mA,qd],λq x m=>by simp[mA,qd]at m,λx m=>by simp[mA,qd]at m,λe b=>by simp[mA,qd]at b,λe b=>by simp[mA,qd]at b,?_,?_,?_⟩;(.intro i g hd;rcases hd with hd|⟨e,b,_⟩;(.have:=l p i g;change jh (qd c.D a fs p) i=J at hd;grind);.simp[mA,qd]at b);(.intro k j f y t;show iW (qa c.D.nb c.D.fb fs a p,qg c.D.nb c.D.fb fs a p) k=_;rw[I3,if_pos f];have:=H8 H (ly fs a,lS fs a) k j 0 (by omega) (λi _ hi=>by cases d:tW c.D i k with|false=>rfl|true=>have s:=(t i (by omega) d).1 (by omega);have n:=zD H (by omega)<|zl d;rw[f]at n;have A:=l p i n;change jh (qd c.D a fs p) i=J at s;grind);rw[Nat.zero_add]at this;rw[this];rfl);.intro k v h;change iW (qa c.D.nb c.D.fb fs a p,qg c.D.nb c.D.fb fs a p) k=I v at h;rw[I3]at h;split at h;(.rename_i f;refine⟨JW hk ?_,f⟩;have:=CH (ly fs a) (lS fs a) k;grind);.cases h
 .have:=l p i g;change jh (qd c.D a fs p) i=J at hd;grind
def Bo(l:List<|Nat×Int):Prop:=l.length<=100/\∀x∈l,x.1<100/\ji x.2
def py.run{t:iP}(T:pk t):∀(f:Nat){m:jc},py t m->py t (runM t f m)|0,_,h=>h|f+1,m,h=>by unfold runM;by_cases a:m.nx<t.nc;(.rw[if_pos a];exact py.run T f (h.step T a).1);grind
def XG{t:iP}(T:pk t){l:List<|Nat×Int}(h:∀x∈l,ji x.2):py t<|lu t l:=py.run T _<|Oe t h
structure xd(P:Part):Prop where
 tw:∀k,P.hs k=true->ji (P.vl k)
 kw:∀e∈P.opn,Bo e.kept
 mw:∀q,∀x∈P.iU q,Bo x.ps
 kt:∀x∈P.taken,Bo x.ps
structure rQ(c:iB)(E:iE):Prop where
 part:∀p,p<=c.D.nb->xd (E.part p)
 res:∀i j,j<4->ji ((E.res i).r j)
def Qt{hs:Nat->Bool}{vl:Nat->Int}(h:∀k,hs k=J->ji (vl k))(t:iP):Bo<|xe t hs vl:=by refine⟨Z9 t hs vl,λx b=>?_⟩;obtain⟨k,v⟩:=x;obtain⟨a,c,_⟩:=(ON t hs vl k v).1 b;refine⟨a,?_⟩;unfold iW at c;grind
def NZ(D:iT)(p:Nat):∀(l:List nm)(s:(Nat->Bool)×(Nat->Int)),(∀k,s.1 k=J->ji (s.2 k))->(∀x∈l,ji x.val)->∀k,(sV D p s l).1 k=J->ji ((sV D p s l).2 k)|[],s,h,_,k,hk=>h k hk|x::l,s,h,d,k,hk=>by simp only[sV,aV]at hk⊢;refine NZ D p l (zb D p s x) (λj a=>?_) (λy e=>d y<|by simp[e]) k hk;unfold zb at a⊢;split;(.rename_i c;rw[if_pos c]at a;split;(.rename_i b;rw[if_pos b]at a;simp only[upd]at a;grind);.rename_i b;rw[if_neg b]at a;simp only[upd]at a⊢;grind);grind
def AF(c:iB):Prop:=∀i,i<c.D.nl->∀j,j<(c.D.ts i).nc*4->(Lit.int .i64<|(c.D.ts i).c j).wf=J
def Ij{c:iB}(H:jg c)(a:AF c)(hi:w<c.D.nl):pk<|c.D.ts w:=⟨H.iz hi,a w hi⟩
def xd.C7{c:iB}(H:jg c)(d:AF c){P:Part}(h:xd P){e:iG}(b:e∈P.opn)(hi:e.iz<c.D.nl):py (c.D.ts e.iz)<|uC c.D P e:=by
 refine XG (Ij H d hi) λx a=>?_;rcases aH.1 a with a|a;.exact((h.kw e b).2 x a).2
 .simp only[lf,List.mem_flatMap,aG]at a;obtain⟨y,⟨f,_⟩,a⟩:=a;exact((h.kt y f).2 x a).2
def xd.done{D:iT}{P:Part}(h:xd P){m:jc}(a:∀x∈m.ch,ji x.val):xd<|pF D w v m P:=⟨NZ D w m.ch (P.hs,P.vl) h.tw a,λe c=>h.kw e (aG.1 c).1,h.mw,λx b=>h.kt x (aG.1 b).1⟩
def rQ.set{c:iB}{E:iE}(h:rQ c E){P:Part}(b:w<=c.D.nb->xd P):rQ c {E with part:=upd E.part w P}:=⟨λq a=>by show xd (upd E.part w P q);unfold upd;split;(.grind);.exact h.part q a,h.res⟩
def rQ.vz{c:iB}:∀(l:List<|Nat×jc)(E:iE),rQ c E->(∀x∈l,(∀y∈x.2.ch,ji y.val)/\∀j,j<4->ji (x.2.r j))->rQ c (l.foldl (kS c.D w) E)|[],E,h,_=>h|x::l,E,h,d=>by simp only[aV];obtain⟨g,f⟩:=d x (by simp);refine rQ.vz l _ ?_ λy k=>d y (by simp[k]);refine⟨λq b=>?_,λi j a=>?_⟩;(.show xd (upd E.part w _ q);unfold upd;split;(.rename_i e;subst e;exact(h.part q b).done g);.exact h.part q b);.show ji ((upd E.res x.1 ⟨J,x.2.ab,x.2.r⟩ i).r j);unfold upd;split;(.exact f j a);.exact h.res i j a
def rQ.pick{c:iB}(H:jg c)(S:AF c){s0:Cells}{E B:iE}(C:mo c s0 E)(h:rQ c E){k q:Nat}(v:w<=c.D.nb)(e:jI c E w k q=I B):rQ c B:=by
 have m:=C.part w v;have b:=h.part w v;unfold jI at e;split at e;.cases f:lL c w (E.part w)with|none=>rw[f]at e;cases e|some P=>rw[f]at e;injection e with e;subst e;unfold lL at f;split at f;(case isFalse=>cases f);injection f with f;subst f;refine h.set λ_=>⟨b.tw,λx g=>?_,b.mw,b.kt⟩;simp only[aH,aW]at g;rcases g with g|rfl;(.exact b.kw x g);.exact⟨by simp[pD],by simp[pD]⟩
 split at e;.cases f:lK c w (E.part w)with|none=>rw[f]at e;cases e|some P=>rw[f]at e;injection e with e;subst e;unfold lK at f;split at f;(case isFalse=>cases f);rename_i u;injection f with f;subst f;refine h.set λ_=>⟨b.tw,λx g=>?_,b.mw,b.kt⟩;rcases mem_modify g with g|⟨e0,s,rfl⟩;(.exact b.kw x g);.obtain⟨_,_,_,T⟩:=xR (pf c.D w (E.part w).opn) (E.part w).opn.length 0;have t:=T (by unfold nt at u;omega);change pf c.D w (E.part w).opn (nt c.D w (E.part w).opn)=J at t;simp only[pf,n6,s,bq,bQ]at t;show Bo (e0.kept++xe (c.D.ts e0.iz) (E.part w).hs (E.part w).vl);rw[m.xl e0 (aI s) t.1,List.nil_append];exact Qt b.tw _
 split at e;.split at e;(case isFalse=>cases e);rename_i hq;unfold n7 at e;split at e;(case isFalse=>cases e);rename_i L;injection e with e;subst e;obtain⟨x,g⟩:∃x,(E.part w).opn[lM c.D q (E.part w).opn]?=I x:=⟨_,bm L.1⟩;have A:rQ c {E with part:=upd E.part w<|mP q (lM c.D q (E.part w).opn)<|E.part w}:=h.set λ_=>⟨b.tw,λy d=>by rcases mem_modify d with d|⟨e0,s,rfl⟩;(.exact b.kw y d);.exact b.kw e0<|aI s,b.mw,b.kt⟩;refine A.set λi=>⟨(h.part q i).tw,(h.part q i).kw,λr y d=>?_,(h.part q i).kt⟩;change y∈upd (E.part q).iU w _ r at d;unfold upd at d;split at d;(.rename_i e';subst e';rcases aH.1 d with d|d;(.exact(h.part q i).mw _ y d);.simp only[aW]at d;subst d;simp only[om,g];exact b.kw x<|aI g);.exact(h.part q i).mw r y d
 split at e;.split at e;(case isFalse=>cases e);cases f:kX q (E.part w)with|none=>rw[f]at e;cases e|some P=>rw[f]at e;injection e with e;subst e;unfold kX at f;split at f;(.cases f);rename_i x l R;injection f with f;subst f;refine h.set λ_=>⟨b.tw,b.kw,λr y d=>?_,λy d=>?_⟩;(.change y∈upd (E.part w).iU q l r at d;unfold upd at d;split at d;(.exact b.mw q y<|by grind);.exact b.mw r y d);.simp only[aH,aW]at d;rcases d with d|rfl;(.exact b.kt y d);.exact b.mw q y<|by rw[R];simp
 split at e;.unfold pK at e;split at e;(case isTrue=>cases e);injection e with e;subst e;refine rQ.vz _ E h λx g=>?_;obtain⟨a,Q,rfl⟩:=List.mem_map.1 g;have o:=(ux Q).1;have n:=b.C7 H S o (by have A:=m.low a o;have h2:=m.mN;omega);exact⟨λy d=>(n.keys y d).2.1,λj G=>n.NX j G⟩
 .cases e
def qy(p:Nat)(l:List iG):Nat:=(l.filter λe=>!e.iF p).length
def oL(c:iB)(E:iE)(p q:Nat):Nat:=((E.part p).iU q).length+qy p (E.part q).opn+(c.D.nl-(E.part q).up)
def pend(c:iB)(E:iE)(p:Nat):Nat:=(E.part p).taken.length+jJ (λq=>oL c E p q) (c.D.nb+1)
def AI{f g:Nat->Nat}:∀{n:Nat},(∀j,j<n->f j<=g j)->jJ f n<=jJ g n|0,_=>Z _|n+1,h=>by have c:=AI (n:=n) λj a=>h j (by omega);have b:=h n (by omega);simp only[jJ];omega
def HW{f g:Nat->Nat}{q:Nat}{a:Nat}:∀{n:Nat},q<n->(∀j,j<n->j≠q->f j<=g j)->f q+a<=g q->jJ f n+a<=jJ g n|0,h,_,_=>by omega|n+1,h,b,i=>by simp only[jJ];by_cases e:q=n;(.subst e;have:=AI (n:=q) λj c=>b j (by omega) (by omega);omega);.have:=HW (n:=n) (by omega) (λj c d=>b j (by omega) d) i;grind
def Mj{l:List iG}{f:iG->iG}(h:∀e,(f e).iF v=e.iF v):qy v (l.modify w f)=qy v l:=by unfold qy;induction l generalizing w with|nil=>simp|cons x l a=>grind
def ZN{l:List iG}{q:Nat}{x:iG}(a:l[w]?=I x)(hs:x.iF q=M):qy q (l.modify w<|ot q)+1=qy q l:=by unfold qy;induction l generalizing w with|nil=>simp at a|cons y l b=>cases w with|zero=>simp only[List.getElem?_cons_zero,Option.some.injEq]at a;subst a;rw[List.modify_zero_cons,List.filter_cons_of_neg<|by simp[ot,upd],List.filter_cons_of_pos<|by simp[hs]];simp|succ w=>grind
def aeL(p:Nat)(l:List iG)(f:iG->Bool):qy p (l.filter f)<=qy p l:=by unfold qy;rw[List.filter_filter];induction l with|nil=>simp|cons x l a=>grind
def J1{c:iB}(r:Nat):∀(l:List<|Nat×jc)(E:iE),pend c (l.foldl (kS c.D w) E) r<=pend c E r|[],E=>Z _|x::l,E=>by simp only[aV];refine aX (J1 r l _) ?_;have a:(kS c.D w E x).part w=pF c.D w x.1 x.2 (E.part w):=upd_same _ _ _;have b:∀s,s≠w->(kS c.D w E x).part s=E.part s:=λs hs=>jq _ _ hs;unfold pend;(have f:((kS c.D w E x).part r).taken.length<=(E.part r).taken.length:=by by_cases e:r=w;(.subst e;rw[a];exact List.length_filter_le _ _);grind);(have g:jJ (λq=>oL c (kS c.D w E x) r q) (c.D.nb+1)<=jJ (λq=>oL c E r q) (c.D.nb+1):=by refine AI λq _=>?_;unfold oL;(have d:((kS c.D w E x).part r).iU=(E.part r).iU:=by by_cases e:r=w;(.subst e;rw[a];rfl);.rw[b r e]);rw[d];by_cases e:q=w;(.subst e;rw[a];have:=aeL r (E.part q).opn λe=>!(e.iz==x.1);show _+qy r ((E.part q).opn.filter λe=>!(e.iz==x.1))+(c.D.nl-(E.part q).up)<=_;omega);grind);omega
def Uo{c:iB}(H:jg c){E A:iE}{k q:Nat}(hp:w<=c.D.nb)(e:jI c E w k q=I A)(r:Nat)(hr:r<=c.D.nb):pend c A r<=pend c E r:=by
 have one:∀(P:Part),P.taken=(E.part w).taken->P.iU=(E.part w).iU->qy r P.opn+(c.D.nl-P.up)<=qy r (E.part w).opn+(c.D.nl-(E.part w).up)->pend c {E with part:=upd E.part w P} r<=pend c E r:=by intro P B S h3;unfold pend;(have a1:(upd E.part w P r).taken=(E.part r).taken:=by by_cases e:r=w;(.subst e;rw[upd_same,B]);.rw[jq _ _ e]);(have G:(upd E.part w P r).iU=(E.part r).iU:=by by_cases e:r=w;(.subst e;rw[upd_same,S]);.rw[jq _ _ e]);(have h4:jJ (λq=>oL c {E with part:=upd E.part w P} r q) (c.D.nb+1)<=jJ (λq=>oL c E r q) (c.D.nb+1):=by refine AI λq _=>?_;simp only[oL,G];by_cases e:q=w;(.subst e;rw[upd_same];omega);.rw[jq _ _ e];omega);grind
 unfold jI at e;split at e;.cases a:lL c w (E.part w)with|none=>rw[a]at e;cases e|some P=>rw[a]at e;injection e with e;subst e;unfold lL at a;split at a;(case isFalse=>cases a);rename_i m;injection a with a;subst a;obtain⟨n1,n2,_⟩:=ui c.D w ((E.part w).up+1) m.1;refine one _ rfl rfl ?_;(have:qy r ((E.part w).opn++[pD (E.part w).up])=qy r (E.part w).opn+1:=by simp[qy,pD]);grind
 split at e;.cases a:lK c w (E.part w)with|none=>rw[a]at e;cases e|some P=>rw[a]at e;injection e with e;subst e;unfold lK at a;split at a;(case isFalse=>cases a);injection a with a;subst a;refine one _ rfl rfl ?_;show qy r ((E.part w).opn.modify _<|rF c.D<|E.part w)+_<=_;rw[Mj (f:=rF c.D<|E.part w) λ_=>rfl];simp
 split at e;.split at e;(case isFalse=>cases e);rename_i o;unfold n7 at e;split at e;(case isFalse=>cases e);rename_i m;injection e with e;subst e;obtain⟨x,u⟩:∃x,(E.part w).opn[lM c.D q (E.part w).opn]?=I x:=⟨_,bm m.1⟩;obtain⟨_,_,_,L⟩:=xR (n6 (nX c.D q) (E.part w).opn) (E.part w).opn.length 0;have d:=L (by have:=m.1;unfold lM at this;omega);change n6 (nX c.D q) (E.part w).opn (lM c.D q (E.part w).opn)=J at d;simp only[n6,u,nX,bq,bQ]at d;generalize lM c.D q (E.part w).opn=b at*;have T:=ZN u d.1.2;(have Q:∀s,(upd (upd E.part w<|mP q b<|E.part w) q (mW w (om w (E.part w).opn b)<|E.part q) s).taken=(E.part s).taken:=λs=>by by_cases e1:s=q;(.subst e1;rw[upd_same];rfl);.rw[jq _ _ e1];by_cases e2:s=w;(.subst e2;rw[upd_same];rfl);.rw[jq _ _ e2]);(have go:∀s,s≠w->(upd (upd E.part w<|mP q b<|E.part w) q (mW w (om w (E.part w).opn b)<|E.part q) s).opn=(E.part s).opn:=λs hs=>by by_cases e1:s=q;(.subst e1;rw[upd_same];rfl);.rw[jq _ _ e1,jq _ _ hs]);(have j:(upd (upd E.part w<|mP q b<|E.part w) q (mW w (om w (E.part w).opn b)<|E.part q) w).opn=(E.part w).opn.modify b (ot q):=by rw[jq _ _ o.2,upd_same];rfl);(have n:∀s,(upd (upd E.part w<|mP q b<|E.part w) q (mW w (om w (E.part w).opn b)<|E.part q) s).up=(E.part s).up:=λs=>by by_cases e1:s=q;(.subst e1;rw[upd_same];rfl);.rw[jq _ _ e1];by_cases e2:s=w;(.subst e2;rw[upd_same];rfl);.rw[jq _ _ e2]);(have R:∀s,s≠q->(upd (upd E.part w<|mP q b<|E.part w) q (mW w (om w (E.part w).opn b)<|E.part q) s).iU=(E.part s).iU:=λs hs=>by rw[jq _ _ hs];by_cases e2:s=w;(.subst e2;rw[upd_same];rfl);.rw[jq _ _ e2]);unfold pend;simp only[Q];by_cases g:r=q;(.subst g;(have:jJ (λs=>oL c ⟨upd (upd E.part w<|mP r b<|E.part w) r<|mW w (om w (E.part w).opn b)<|E.part r,E.res⟩ r s) (c.D.nb+1)+0<=jJ (λs=>oL c E r s) (c.D.nb+1):=by(have i:(upd (upd E.part w<|mP r b<|E.part w) r (mW w (om w (E.part w).opn b)<|E.part r) r).iU=upd (E.part r).iU w ((E.part r).iU w++[om w (E.part w).opn b]):=by rw[upd_same];rfl);refine HW (q:=w) (by omega) (λs _ hs=>?_) ?_;(.simp only[oL,go s hs,n,i];rw[jq _ _ hs];omega);.simp only[oL,j,n,i];rw[upd_same];grind);omega);. (have:jJ (λs=>oL c ⟨upd (upd E.part w<|mP q b<|E.part w) q<|mW w (om w (E.part w).opn b)<|E.part q,E.res⟩ r s) (c.D.nb+1)<=jJ (λs=>oL c E r s) (c.D.nb+1):=by refine AI λs _=>?_;simp only[oL,R r g,n];by_cases hs:s=w;(.subst hs;rw[j,Mj λy=>jq _ _ g];omega);grind);omega
 split at e;.split at e;(case isFalse=>cases e);rename_i o;cases a:kX q (E.part w)with|none=>rw[a]at e;cases e|some P=>rw[a]at e;injection e with e;subst e;unfold kX at a;split at a;(.cases a);rename_i x l C;injection a with a;subst a;unfold pend;by_cases h:r=w;(.subst h;simp only[upd_same,List.length_append,bR,bu];(have:jJ (λs=>oL c {E with part:=upd E.part r {E.part r with taken:=(E.part r).taken++[x],iU:=upd (E.part r).iU q l}} r s) (c.D.nb+1)+1<=jJ (λs=>oL c E r s) (c.D.nb+1):=by(have v:∀s,(upd E.part r {E.part r with taken:=(E.part r).taken++[x],iU:=upd (E.part r).iU q l} s).opn=(E.part s).opn:=λs=>by by_cases e1:s=r;(.subst e1;rw[upd_same]);.rw[jq _ _ e1]);(have t:∀s,(upd E.part r {E.part r with taken:=(E.part r).taken++[x],iU:=upd (E.part r).iU q l} s).up=(E.part s).up:=λs=>by by_cases e1:s=r;(.subst e1;rw[upd_same]);.rw[jq _ _ e1]);refine HW (q:=q) (by omega) (λs _ hs=>?_) ?_;(.simp only[oL,v,t,upd_same];rw[jq _ _ hs];omega);.simp only[oL,v,t,upd_same,C,bR];omega);grind);.simp only[jq _ _ h];(have:jJ (λs=>oL c {E with part:=upd E.part w {E.part w with taken:=(E.part w).taken++[x],iU:=upd (E.part w).iU q l}} r s) (c.D.nb+1)<=jJ (λs=>oL c E r s) (c.D.nb+1):=by refine AI λs _=>?_;simp only[oL,jq _ _ h];by_cases e1:s=w;(.subst e1;rw[upd_same];simp);.rw[jq _ _ e1];omega);grind
 split at e;.unfold pK at e;split at e;(case isTrue=>cases e);injection e with e;subst e;exact J1 r _ E
 .cases e
def S6(c:iB)(H:jg c)(a:Nat)(fs:Nat->Int)(p:Nat):pend c (mA c.D a fs) p<=96:=by
 have b:=H.G.nb;have e:=H.G.nl;have:jJ (λq=>oL c (mA c.D a fs) p q) (c.D.nb+1)<=(c.D.nb+1)*24:=by refine HI λq _=>?_;simp only[oL,mA,qd,qy,bu,List.filter_nil];omega
 have d:(c.D.nb+1)*24<=4*24:=Nat.mul_le_mul_right _ (by omega);unfold pend;simp only[mA,qd,bu]at this⊢;omega
def Hu{c:iB}{E:iE}(h:pend c E w<=96):(E.part w).taken.length<=96:=by unfold pend at h;omega
end
section
open Go.Conc Go.ConcR Go.RowKit Go.Conc.Lib Go.ConcR.Gen
abbrev vA:Go.Conc.Lib.WgLink:={add:=130,done:=132,wait:=136,relMerge:=151,disable:=152,enable:=153,inBubble:=154,associate:=155,fatal:=156,uOr:=157,uAdd:=158,raceRead:=159,uLoad:=160,uStore:=161,disassociate:=162,semrelease:=163,acquire:=165,isAssociated:=166,uCas:=167,raceWrite:=168,semacquire:=169,orU64:=175,addU64:=176,loadU64:=177,storeU64:=178,casU64:=179,tWgP:=234,tUP:=236,tAssoc:=237,tWg:=224,tAU:=221,tU64:=219,tUint:=241,tU32:=222,tPU32:=242,tPAU:=259,tPU64:=261,tNoCopy:=216,tANoCopy:=217,tAlign64:=218}
def FI:Go.Conc.Lib.WgLib Tryz.prog vA:=⟨Tryz.func130,Tryz.func132,Tryz.func136,Tryz.func151,Tryz.func152,Tryz.func153,Tryz.func154,Tryz.func155,Tryz.func156,Tryz.func157,Tryz.func158,Tryz.func159,Tryz.func160,Tryz.func161,Tryz.func162,Tryz.func163,Tryz.func165,Tryz.func166,Tryz.func167,Tryz.func168,Tryz.func169,Tryz.func175,Tryz.func176,Tryz.func177,Tryz.func178,Tryz.func179,Tryz.underlying234,Tryz.runUnderlying234,Tryz.sizeOf234,Tryz.isAgg234,Tryz.zeroValue234,Tryz.underlying236,Tryz.runUnderlying236,Tryz.sizeOf236,Tryz.isAgg236,Tryz.zeroValue236,Tryz.underlying237,Tryz.runUnderlying237,Tryz.sizeOf237,Tryz.isAgg237,Tryz.zeroValue237,Tryz.underlying224,Tryz.runUnderlying224,Tryz.sizeOf224,Tryz.isAgg224,Tryz.zeroValue224,Tryz.underlying221,Tryz.runUnderlying221,Tryz.sizeOf221,Tryz.isAgg221,Tryz.zeroValue221,Tryz.underlying219,Tryz.runUnderlying219,Tryz.sizeOf219,Tryz.isAgg219,Tryz.zeroValue219,Tryz.underlying241,Tryz.runUnderlying241,Tryz.sizeOf241,Tryz.isAgg241,Tryz.zeroValue241,Tryz.underlying222,Tryz.runUnderlying222,Tryz.sizeOf222,Tryz.isAgg222,Tryz.zeroValue222,Tryz.underlying242,Tryz.runUnderlying242,Tryz.sizeOf242,Tryz.isAgg242,Tryz.zeroValue242,Tryz.underlying259,Tryz.runUnderlying259,Tryz.sizeOf259,Tryz.isAgg259,Tryz.zeroValue259,Tryz.underlying261,Tryz.runUnderlying261,Tryz.sizeOf261,Tryz.isAgg261,Tryz.zeroValue261,Tryz.underlying0,Tryz.runUnderlying0,Tryz.sizeOf0,Tryz.isAgg0,Tryz.zeroValue0,Tryz.underlying3,Tryz.runUnderlying3,Tryz.sizeOf3,Tryz.isAgg3,Tryz.zeroValue3,Tryz.underlying4,Tryz.runUnderlying4,Tryz.sizeOf4,Tryz.isAgg4,Tryz.zeroValue4,Tryz.underlying9,Tryz.runUnderlying9,Tryz.sizeOf9,Tryz.isAgg9,Tryz.zeroValue9,Tryz.underlying20,Tryz.runUnderlying20,Tryz.sizeOf20,Tryz.isAgg20,Tryz.zeroValue20,Tryz.underlying21,Tryz.runUnderlying21,Tryz.sizeOf21,Tryz.isAgg21,Tryz.zeroValue21,(by kernel_rfl),(by kernel_rfl)⟩
instance:Payload:=⟨198⟩
end
end Go.Proofs.YtldeiiffabfmeaaGreatDoor
namespace Go.Rel
section
open Go.Conc Go.ConcN Go.RowKit Go.Conc.Lib Go.ConcR.Gen Go.ConcN.Gen
open Go.ConcR(KK wgBlock WgAt stA smA rd wr mk Payload DC0)
variable[Payload]{L:WgLink}{P:z}
section
variable{main:Bool}{R:U->U->Prop}{D:U->U->Array ak->Prop}{S S1:Goroutine->U->Prop}
def agH(j:∀a b c,R a b->R b c->R a c)(i:∀g w r,S1 g w->Goes P main R D S r g w->S g w):∀n g w r,Goes P main R DC0 S1 n g w->Goes P main R D S r g w->Goes P main R DC0 S n g w:=by intro n;induction n with|zero=>intro g w r h e d f;exact i g d r (h d f)<|e.rely j f|succ n m=>intro g w r h e;rcases h with h|⟨hs,h⟩;(.exact V λd f=>i g d r (h d f) (e.rely j f));.cases r with|zero=>exact V e|succ r=>rcases e with e|⟨_,e⟩;(.exact V e);.refine K ⟨hs,λd f=>?_⟩;have l:=h d f;have k:=e d f;revert l k;cases stepG P main g d<;>simp only[GStep.goes,false_implies];grind
end
section
variable{Own Rd:Nat->Loc->Prop}{Wg C n Low k:Nat}{val:F}
def T7{ty:O}:∀m g w r,Goes P M (RW ty Wg C n Low<|k-1) DC0 (λg w=>∃f,stepG P M g w=.go f w #[mk .disable]) m g w->Goes P M (RW ty Wg C n Low<|k-1) (DWs Wg Own Rd C n k) (AtR0 P ty Wg C n Low k val) r g w->False:=by intro m;induction m with|zero=>intro g w r d a;obtain⟨f,e⟩:=d w<|ae w;rcases aJ a with a|⟨h,_,a⟩;(.obtain⟨_,_,c,e2,_⟩:=a w<|ae w;rw[e]at e2;simp[mk]at e2);.obtain⟨c,j,i,e2,⟨_,b⟩,_⟩:=a w<|ae w;rw[e]at e2;simp only[GStep.go.injEq]at e2;obtain⟨_,_,rfl⟩:=e2;exact(b (mk .disable)<|by simp).2.1 rfl|succ m t=>intro g w r d a;rcases aJ d with d|⟨l,s,p⟩;(.obtain⟨f,e⟩:=d w<|ae w;rcases aJ a with a|⟨h,_,a⟩;(.obtain⟨_,_,c,e2,_⟩:=a w<|ae w;rw[e]at e2;simp[mk]at e2);.obtain⟨c,j,i,e2,⟨_,b⟩,_⟩:=a w<|ae w;rw[e]at e2;simp only[GStep.go.injEq]at e2;obtain⟨_,_,rfl⟩:=e2;exact(b (mk .disable)<|by simp).2.1 rfl);. (obtain rfl:l=m:=by omega);obtain⟨q,w1,o,e1,⟨rfl,rfl⟩,k1⟩:=p w<|ae w;rcases aJ a with a|⟨h,_,a⟩;(.obtain⟨_,_,c,e2,_⟩:=a _<|ae _;grind);.obtain⟨c,j,i,e2,_,k2⟩:=a _<|ae _;grind
def acD(H:WgLib P L){c:Frame}{cs:List Frame}{qt:Nat}(hcm:c.mode=.returning)(hT:QuitsD P qt 0<|G c cs)(w:U)(hK:WgLive L.tWg Wg w/\Has C (k-1) val w):Goes P M (RW L.tWg Wg C n Low<|k-1) DC0 (AtR0 P L.tWg Wg C n Low k val) 60 (G ((baseD L.done).at ⟨#[ah<|I ⟨Wg,0,N⟩,aK,aK,aK],[]⟩ [.code<|body_done L])<|c::cs) w:=by
 have kit:=doneN (n:=n) (Low:=Low) (Own:=λ_ _=>False) (Rd:=λ_ _=>False) H hcm hT w hK;refine agH (λ_ _ _ a b=>a.trans b) (S1:=λg w=>∃g',stepG P M g w=.go g' w #[mk<|.releaseMerge<|stA Wg]/\∃m,Goes P M (RW L.tWg Wg C n Low<|k-1) DC0 (λg w=>∃g',stepG P M g w=.go g' w #[mk .disable]) m g' w) ?_ 60 _ _ _ ?_ kit;.intro g w r⟨g',e,m,hm⟩h2;rcases aJ h2 with h2|⟨r',_,h2⟩;(.exact h2 w<|ae w);.obtain⟨g2,w2,es,e2,_,k2⟩:=h2 w<|ae w;rw[e]at e2;simp only[GStep.go.injEq]at e2;obtain⟨rfl,rfl,rfl⟩:=e2;exact(T7 m _ _ _ hm k2).elim
 .lib_facts;simp only[body_done,doneFn,Option.getD_some];u_reg kn_rely hK;u_op kn_rely hK;u_in kn_rely hK;refine goes_call rfl rfl (by k_ne) rfl H.f_add (nm_add L) rfl ⟨by u_nil,?_⟩;walk_nrmf addFn;(repeat(first|u_op kn_rely hK|u_c stepG_region_end kn_rely hK|u_c stepG_seq kn_rely hK|u_reg kn_rely hK|u_cond J kn_rely hK));u_conv H.underlying_tWgP H.room_tWg(WgLive.cell0 hK.1).choose_spec kn_rely hK;refine bT λw₁ h₁=>?_;replace hK:=kn_rely hK h₁;refine⟨_,stepG_markAt .releaseMerge (by simp) rfl rfl (by k_ne) rfl H.f_relMerge (x_relMerge_n L) (x_relMerge_b L) (x_relMerge_x L) (x_relMerge_f L)<|by simp[Act.eval,stA],10,?_⟩;walk_nrm;(repeat(first|u_c stepG_region_end kn_rely hK|u_c stepG_seq kn_rely hK|u_reg kn_rely hK));refine bT λw₁ h₁=>?_;exact⟨_,stepG_mark0 .disable (by simp) rfl rfl (by k_ne) rfl H.f_disable (x_disable_n L) (x_disable_b L) (x_disable_x L)<|x_disable_f L⟩
end
end
section
abbrev iI:=Nat->Nat->Prop
structure jL where
 heap:Array Obj
 os:Os
 out:Array<|Nat×ByteArray
structure iO where
 fn:FuncId->Prop
 kU:Prop
 gs:Nat
 kV:Prop
 old:jL
 tags:Nat->F
 jX:O
structure iI.jv(ok:iO)(ρ:iI):Prop where
 fn:∀{a b b'},ρ a b->ρ a b'->b=b'
 inj:∀{a a' b},ρ a b->ρ a' b->a=a'
 kV:∀{a b},ρ a b->(a<ok.gs\/b<ok.gs)->a=b
def iI.le(ρ c:iI):Prop:=∀a b,ρ a b->c a b
def iI.le.refl(ρ:iI):ρ.le ρ:=λ_ _ h=>h
def iI.le.trans{a b c:iI}(h:a.le b)(d:b.le c):a.le c:=λx y e=>d x y<|h x y e
def jK(ρ:iI)(a b:X):Prop:=ρ a.block b.block/\a.off=b.off/\a.spot=b.spot
def jK.mono{ρ b:iI}(h:ρ.le b){a:X}(x:jK ρ a r):jK b a r:=⟨h _ _ x.1,x.2⟩
def jK.add{ρ:iI}{a:X}(x:jK ρ a r)(n:Nat):jK ρ (a.add n)<|r.add n:=by
 unfold Addr.add;split;.exact x
 .exact⟨x.1,by simp[x.2.1],rfl⟩
mutual def Flat:F->Prop|aM _|aN _ _|aY _|ah N|an N _ _|ao N|bw|aZ=>True|aq ⟨x⟩|ar ⟨x⟩=>sg x|_=>False def sg:List F->Prop|[]=>True|v::vs=>Flat v/\sg vs end
def Ju:F->Prop|aq _|ar _|aM _=>False|_=>True
def Cc:F->Prop|an (I _) _ _|ah (I _)=>True|_=>False
def vi:X:=⟨0,0,I 0⟩
mutual inductive iH(ok:iO)(ρ:iI):F->F->Prop|bool(b:Bool):iH ok ρ (aM b)<|aM b|int(k:bd)(n:Int):iH ok ρ (aN k n)<|aN k n|string(s:ByteArray):iH ok ρ (aY s)<|aY s|od:iH ok ρ (ah none)<|ah none|ptr{a a':X}(h:jK ρ a a'):iH ok ρ (ah<|some a)<|ah<|some a'|mz(n c:Nat):iH ok ρ (an none n c)<|an none n c|slice{a a':X}(h:jK ρ a a')(n c:Nat):iH ok ρ (an (some a) n c)<|an (some a') n c|dead(a':X):iH ok ρ (an (some vi) 0 0)<|an (some a') 0 0|oy:iH ok ρ (ao none)<|ao none|map{r r':Nat}(h:ρ r r'):iH ok ρ (ao<|some r)<|ao<|some r'|func{f:FuncId}(hf:ok.fn f){x x' y y':List F}(hx:jf ok ρ x x')(hy:jf ok ρ y y'):iH ok ρ (.func (.func f) ⟨x⟩ ⟨y⟩)<|.func (.func f) ⟨x'⟩ ⟨y'⟩|jP{v':F}(h:Ju v'):iH ok ρ bw v'|nilIface:iH ok ρ aZ aZ|agg{x x':List F}(hx:jf ok ρ x x'):iH ok ρ (aq ⟨x⟩)<|aq ⟨x'⟩|tuple{x x':List F}(hx:jf ok ρ x x'):iH ok ρ (ar ⟨x⟩)<|ar ⟨x'⟩|pW(hh:ok.kU)(r':Nat):iH ok ρ (ao<|some 0)<|ao<|some r'|iface(t:O){v:F}(h:Flat v)(hn:t≠ok.jX):iH ok ρ (bg t v)<|bg t v|tag(n:Nat){t:O}{v':F}(et:t=ok.jX)(e:ok.tags n=v')(h:Cc v'):iH ok ρ (bg t<|aN .i64 n) v' inductive jf(ok:iO)(ρ:iI):List F->List F->Prop|nil:jf ok ρ [] []|cons{v v':F}{vs vs':List F}(h:iH ok ρ v v')(hs:jf ok ρ vs vs'):jf ok ρ (v::vs)<|v'::vs' end
variable{ok:iO}{ρ ρ':iI}
mutual theorem iH.mono(hl:ρ.le ρ'):∀{v v':F},iH ok ρ v v'->iH ok ρ' v v'|_,_,.bool b=>.bool b|_,_,.int k n=>.int k n|_,_,.string s=>.string s|_,_,.od=>.od|_,_,.ptr h=>.ptr (h.mono hl)|_,_,.mz n c=>.mz n c|_,_,.slice h n c=>.slice (h.mono hl) n c|_,_,.dead a=>.dead a|_,_,.oy=>.oy|_,_,.map h=>.map (hl _ _ h)|_,_,.func hf hx hy=>.func hf (jf.mono hl hx) (jf.mono hl hy)|_,_,.jP h=>.jP h|_,_,.nilIface=>.nilIface|_,_,.agg hx=>.agg (jf.mono hl hx)|_,_,.tuple hx=>.tuple (jf.mono hl hx)|_,_,.pW hh r=>.pW hh r|_,_,.iface t h hn=>.iface t h hn|_,_,.tag n et e h=>.tag n et e h theorem jf.mono(hl:ρ.le ρ'):∀{v v':List F},jf ok ρ v v'->jf ok ρ' v v'|_,_,.nil=>.nil|_,_,.cons h hs=>.cons (iH.mono hl h) (jf.mono hl hs)end
def jf.length(h:jf ok ρ t A):t.length=A.length:=by induction t generalizing A with|nil=>cases h;rfl|cons v b a=>cases h with|cons h hs=>simp[a hs]
def jf.get?(h:jf ok ρ t A)(i:Nat):(t[i]?=N/\A[i]?=N)\/∃v a,t[i]?=I v/\A[i]?=I a/\iH ok ρ v a:=by induction t generalizing A i with|nil=>cases h;simp|cons v c b=>cases h with|cons h hs=>grind
def jf.append(h:jf ok ρ t A)(g:jf ok ρ B E):jf ok ρ (t++B)<|A++E:=by induction t generalizing A with|nil=>cases h;exact g|cons v b a=>cases h with|cons h hs=>exact .cons h<|a hs
def jf.set(h:jf ok ρ t A)(c:iH ok ρ y a)(i:Nat):jf ok ρ (t.set i y)<|A.set i a:=by induction t generalizing A i with|nil=>cases h;exact .nil|cons u d b=>cases h with|cons h hs=>cases i with|zero=>exact .cons c hs|succ i=>exact .cons h<|b hs i
def jf.take(h:jf ok ρ t A)(n:Nat):jf ok ρ (t.take n)<|A.take n:=by induction n generalizing t A with|zero=>exact .nil|succ n a=>cases h with|nil=>exact .nil|cons h hs=>exact .cons h<|a hs
def jf.drop(h:jf ok ρ t A)(n:Nat):jf ok ρ (t.drop n)<|A.drop n:=by induction n generalizing t A with|zero=>exact h|succ n a=>cases h with|nil=>exact .nil|cons h hs=>exact a hs
def jf.Et(d:t.length=A.length)(h:∀(i:Nat)v c,t[i]?=I v->A[i]?=I c->iH ok ρ v c):jf ok ρ t A:=by induction t generalizing A with|nil=>(cases A with|nil=>exact .nil|cons _ _=>cases d)|cons v k f=>cases A with|nil=>cases d|cons c e=>exact .cons (h 0 v c rfl rfl)<|f (by simpa using d) λi a b j g=>h (i+1) a b (by simpa using j) (by simpa using g)
def iV(ok:iO)(ρ:iI)(x a:Array F):Prop:=jf ok ρ x.toList a.toList
def iV.mono(a:ρ.le ρ')(h:iV ok ρ d e):iV ok ρ' d e:=jf.mono a h
def iV.size(h:iV ok ρ d e):d.size=e.size:=by have:=jf.length h;simpa using this
def iV.get?(h:iV ok ρ d e)(i:Nat):(d[i]?=N/\e[i]?=N)\/∃v a,d[i]?=I v/\e[i]?=I a/\iH ok ρ v a:=by have:=jf.get? h i;simpa using this
def iV.append{a:Array F}(h:iV ok ρ d e)(g:iV ok ρ f a):iV ok ρ (d++f)<|e++a:=by have:=jf.append h g;unfold iV;simpa using this
def iV.push(h:iV ok ρ d e)(b:iH ok ρ y a):iV ok ρ (d.push y)<|e.push a:=by have:=jf.append h<|.cons b .nil;unfold iV;simpa using this
def iV.set(h:iV ok ρ d e)(b:iH ok ρ y a)(i:Nat):iV ok ρ (d.setIfInBounds i y)<|e.setIfInBounds i a:=by have:=jf.set h b i;unfold iV;simpa using this
def iV.extract(h:iV ok ρ d e)(a b:Nat):iV ok ρ (d.extract a b)<|e.extract a b:=by have:=jf.take (jf.drop h a)<|b-a;unfold iV;simp_all
def iV.agg(h:iV ok ρ d e):iH ok ρ (aq d)<|aq e:=by cases d;cases e;exact .agg h
def iV.nil:iV ok ρ #[] #[]:=jf.nil
def iV.one(h:iH ok ρ y a):iV ok ρ #[y] #[a]:=jf.cons h .nil
def iH.undef:iH ok ρ aK aK:=.tuple .nil
def iV.getD(h:iV ok ρ e f)(i:Nat){d:F}(hd:iH ok ρ d y):iH ok ρ (e.getD i d)<|f.getD i y:=by
 rw[bU,bU];rcases h.get? i with⟨a,b⟩|⟨v,c,a,b,g⟩;.grind
 grind
def iH.cells(h:iH ok ρ y a):iV ok ρ y.cells a.cells:=by cases h with|agg c=>exact c|pW d r=>exact iV.one<|.pW d r|iface t h f=>exact iV.one<|.iface t h f|@tag n t a b e h=>(have g:a.cells=#[a]:=by unfold bz;cases a<;>first|rfl|exact absurd h id);rw[g];exact iV.one<|.tag n b e h|@jP a h=>(have e:a.cells=#[a]:=by unfold bz;cases a<;>first|rfl|exact absurd h id);rw[e];exact iV.one<|.jP h|_=>exact iV.one (by first|exact .bool _|exact .int _ _|exact .string _|exact .od|(apply iH.ptr;assumption)|exact .mz _ _|(apply iH.slice;assumption)|exact .dead _|exact .oy|(apply iH.map;assumption)|(apply iH.func<;>assumption)|exact .nilIface|(apply iH.tuple;assumption))
mutual theorem Flat.rel:∀{v:F},Flat v->iH ok ρ v v|aM b,_=>.bool b|aN k n,_=>.int k n|aY s,_=>.string s|ah N,_=>.od|an N n c,_=>.mz n c|ao N,_=>.oy|bw,_=>.jP trivial|aZ,_=>.nilIface|aq ⟨x⟩,h=>.agg (sg.rel<|by simpa[Flat]using h)|ar ⟨x⟩,h=>.tuple (sg.rel<|by simpa[Flat]using h)|ah (I _),h=>by simp[Flat]at h|an (I _) _ _,h=>by simp[Flat]at h|ao (I _),h=>by simp[Flat]at h|.chan _,h=>by simp[Flat]at h|.func _ _ _,h=>by simp[Flat]at h|bg _ _,h=>by simp[Flat]at h|.float _ _,h=>by simp[Flat]at h|.complex _ _ _,h=>by simp[Flat]at h theorem sg.rel:∀{v:List F},sg v->jf ok ρ v v|[],_=>.nil|v::vs,h=>by simp only[sg]at h;exact .cons (Flat.rel h.1)<|sg.rel h.2 end
structure zC(ok:iO)(ρ:iI)(e e':Y):Prop where
 key:iH ok ρ e.key e'.key
 val:iH ok ρ e.val e'.val
 born:e.born=e'.born
inductive kI(ok:iO)(ρ:iI):List Y->List Y->Prop|nil:kI ok ρ [] []|cons{e e':Y}{es es':List Y}(h:zC ok ρ e e')(hs:kI ok ρ es es'):kI ok ρ (e::es)<|e'::es'
def zC.mono(a:ρ.le ρ'){e b:Y}(h:zC ok ρ e b):zC ok ρ' e b:=⟨h.key.mono a,h.val.mono a,h.born⟩
def kI.mono(b:ρ.le ρ'){e a:List Y}(h:kI ok ρ e a):kI ok ρ' e a:=by induction h with|nil=>exact .nil|cons h _ c=>exact .cons (h.mono b) c
def kI.length{x a:List Y}(h:kI ok ρ x a):x.length=a.length:=by induction h with|nil=>rfl|cons _ _ b=>simp[b]
def kI.append{x b y a:List Y}(h:kI ok ρ x b)(g:kI ok ρ y a):kI ok ρ (x++y)<|b++a:=by induction h with|nil=>exact g|cons h _ c=>exact .cons h c
def kI.modify{x b:List Y}(h:kI ok ρ x b){f f':Y->Y}(c:∀e a,zC ok ρ e a->zC ok ρ (f e) (f' a))(i:Nat):kI ok ρ (x.modify i f)<|b.modify i f':=by induction h generalizing i with|nil=>simp;exact .nil|cons h hs d=>cases i with|zero=>simp;exact .cons (c _ _ h) hs|succ i=>simp;exact .cons h<|d i
def kI.eraseIdx{x a:List Y}(h:kI ok ρ x a)(i:Nat):kI ok ρ (x.eraseIdx i)<|a.eraseIdx i:=by induction h generalizing i with|nil=>simp;exact .nil|cons h hs b=>cases i with|zero=>simpa using hs|succ i=>simpa using kI.cons h (b i)
def kI.get?{x a:List Y}(h:kI ok ρ x a)(i:Nat):(x[i]?=N/\a[i]?=N)\/∃v b,x[i]?=I v/\a[i]?=I b/\zC ok ρ v b:=by induction h generalizing i with|nil=>simp|cons h hs c=>grind
structure xa(fr fr':Nat×Nat):Prop where
 H4:∀i,fr'.1<=i->i<fr'.2->fr.1<=i/\i<fr.2
 nil:fr=(0,0)->fr'=(0,0)
inductive ni(ok:iO)(ρ:iI):Obj->Obj->Prop|cells{x x':Array F}(h:iV ok ρ x x')(t:O){fr fr':Nat×Nat}(hf:xa fr fr'):ni ok ρ (ai x t fr)<|ai x' t fr'|map{x x':Array Y}(h:kI ok ρ x.toList x'.toList)(c:Nat):ni ok ρ (aj x c)<|aj x' c|number{a a':X}(h:jK ρ a a')(l:Bool):ni ok ρ (aA a l)<|aA a' l
def ni.mono(a:ρ.le ρ')(h:ni ok ρ Q T):ni ok ρ' Q T:=by cases h with|cells h t b=>exact .cells (h.mono a) t b|map h c=>exact .map (h.mono a) c|number h l=>exact .number (h.mono a) l
def _root_.Go.Mark.bare:Mark->Prop|.extern _|.noRoom=>True|_=>False
def _root_.Go.Halt.fair:Halt->Prop|.panic _|.stuck _=>True|.unsupported (.initOrder _)=>False|.unsupported _=>True|_=>False
def j9(P:z)(m:Sem p):Prop:=∀w,∃h a,m.run P w=.halt h a/\h.fair
def iw{u:Type}(ok:iO)(P:z)(R:iI->p->u->Prop):iI->Sem p->Sem u->Prop|ρ,au a,m=>∃b,m=au b/\R ρ a b|ρ,.load g a k,m=>j9 P (.load g a k)\/∃f d,g=ax/\m=.load g f d/\jK ρ a f/\∀v j,iH ok ρ v j->iw ok P R ρ (k v) (d j)|ρ,bh g a v k,m=>j9 P (bh g a v k)\/∃f j d,g=ax/\m=bh g f j d/\jK ρ a f/\iH ok ρ v j/\iw ok P R ρ k d|ρ,.new o k,m=>j9 P (.new o k)\/∃t d,m=.new t d/\ni ok ρ o t/\∀(ρ':iI),ρ.le ρ'->ρ'.jv ok->∀r e,ρ' r e->iw ok P R ρ' (k r) (d e)|ρ,bA r k,m=>j9 P (bA r k)\/∃e d,m=bA e d/\ρ r e/\∀s,iw ok P R ρ (k s) (d s)|_,.freeze a n k,_=>j9 P (.freeze a n k)|ρ,bB a k,m=>j9 P (bB a k)\/∃f d,m=bB f d/\∀b w,iw ok P R ρ (k b) (d w)|ρ,bC r k,m=>j9 P (bC r k)\/(ok.kU/\r=0)\/∃e d,m=bC e d/\ρ r e/\(∀(x i:Array Y)c,kI ok ρ x.toList i.toList->iw ok P R ρ (k<|aj x c) (d<|aj i c))/\∀a f l,jK ρ a f->iw ok P R ρ (k<|aA a l) (d<|aA f l)|ρ,bD r o k,m=>j9 P (bD r o k)\/(ok.kU/\r=0)\/∃e d x i c,m=bD e (aj i c) d/\o=aj x c/\ρ r e/\kI ok ρ x.toList i.toList/\iw ok P R ρ k d|ρ,bj q k,m=>j9 P (bj q k)\/∃d,m=bj q d/\∀n,iw ok P R ρ (k n) (d n)|_,.sys c k,_=>j9 P (.sys c k)|ρ,bE k,m=>j9 P (bE k)\/∃d,m=bE d/\iw ok P R ρ (k P) (d P)|ρ,.mark mk k,m=>j9 P (.mark mk k)\/∃d,m=.mark mk d/\mk.bare/\iw ok P R ρ k d|_,.halt h,_=>h.fair
def j9.bind{P:z}{m:Sem p}(h:j9 P m)(f:p->Sem q):j9 P<|m.bind f:=by intro w;obtain⟨x,a,b,c⟩:=h w;have:=Sem.run_bind' P m f w;simp_all
def iw.jY{P:z}{R:iI->p->q->Prop}{m:Sem p}{f:Sem q}(h:j9 P m):iw ok P R ρ m f:=by cases m with|pure a=>obtain⟨x,d,b,_⟩:=h default;cases b|halt x=>obtain⟨y,d,b,e⟩:=h default;cases b;exact e|freeze a n k=>exact h|sys c k=>exact h|_=>exact V h
section
variable{P:z}{α β α' β':Type}{R:iI->α->β->Prop}{R':iI->α'->β'->Prop}
def iw.bind{m:Sem α}{A:Sem β}(h:iw ok P R ρ m A){f:α->Sem α'}{Q:β->Sem β'}(hi:ρ.jv ok)(e:∀(ρ':iI),ρ.le ρ'->ρ'.jv ok->∀a b,R ρ' a b->iw ok P R' ρ' (f a) (Q b)):iw ok P R' ρ (m>>=f)<|A>>=Q:=by show iw ok P R' ρ (m.bind f) (A.bind Q);induction m generalizing A ρ with|pure a=>obtain⟨b,rfl,hR⟩:=h;exact e ρ (iI.le.refl _) hi a b hR|load T a k d=>rcases h with h|⟨p,g,u,rfl,t,hk⟩;(.exact iw.jY<|h.bind f);.exact K ⟨p,_,u,rfl,t,λv E H=>d v (hk v E H) hi e⟩|store T a v k d=>rcases h with h|⟨p,E,g,u,rfl,t,H,hk⟩;(.exact iw.jY<|h.bind f);.exact K ⟨p,E,_,u,rfl,t,H,d hk hi e⟩|new o k d=>rcases h with h|⟨o',g,rfl,w,hk⟩;(.exact iw.jY<|h.bind f);.exact K ⟨o',_,rfl,w,λD S y r j i=>d r (hk D S y r j i) y λB C=>e B<|S.trans C⟩|shape r k d=>rcases h with h|⟨j,g,rfl,i,hk⟩;(.exact iw.jY<|h.bind f);.exact K ⟨j,_,rfl,i,λs=>d s (hk s) hi e⟩|freeze a n k d=>exact iw.jY<|j9.bind h f|frozen a k d=>rcases h with h|⟨p,g,rfl,hk⟩;(.exact iw.jY<|h.bind f);.exact K ⟨p,_,rfl,λs s'=>d s (hk s s') hi e⟩|getObj r k d=>rcases h with h|h|⟨j,g,rfl,i,hk,L⟩;(.exact iw.jY<|h.bind f);(.exact K<|V h);.exact K<|K ⟨j,_,rfl,i,λx G c w=>d _ (hk x G c w) hi e,λa p l t=>d _ (L a p l t) hi e⟩|setObj r o k d=>rcases h with h|h|⟨j,g,x,G,c,rfl,w,i,he,hk⟩;(.exact iw.jY<|h.bind f);(.exact K<|V h);.exact K<|K ⟨j,_,x,G,c,rfl,w,i,he,d hk hi e⟩|choose q k d=>rcases h with h|⟨g,rfl,hk⟩;(.exact iw.jY<|h.bind f);.exact K ⟨_,rfl,λn=>d n (hk n) hi e⟩|sys c k d=>exact iw.jY<|j9.bind h f|program k d=>rcases h with h|⟨g,rfl,hk⟩;(.exact iw.jY<|h.bind f);.exact K ⟨_,rfl,d P hk hi e⟩|mark mk k d=>rcases h with h|⟨g,rfl,u,hk⟩;(.exact iw.jY<|h.bind f);.exact K ⟨_,rfl,u,d hk hi e⟩|halt _=>exact h
def iw.ret{a:α}{b:β}(h:R ρ a b):iw ok P R ρ (pure a)<|pure b:=⟨b,rfl,h⟩
def iw.halt(h:Halt)(m:Sem β)(a:h.fair:=by exact trivial):iw ok P R ρ (.halt h:Sem α) m:=a
end
end
section
variable{ok:iO}{ρ ρ':iI}{P:z}
structure jz(ok:iO)(ρ:iI)(w wa:U):Prop where
 inj:ρ.jv ok
 gs:ok.gs<=w.heap.size/\ok.gs<=wa.heap.size
 zero:ok.kU->∃x t f,w.heap[0]?=some (ai x t f)
 obj:∀{b b'},ρ b b'->∃o o',w.heap[b]?=some o/\wa.heap[b']?=some o'/\ni ok ρ o o'
 out:wa.os=ok.old.os/\wa.output=ok.old.out
def kC(w:U)(b:Nat):Prop:=∃x t hi,w.heap[b]?=I (ai x t (0,hi))/\x.size<=hi
def vn(ρ:iI)(w:U)(e:ak):Prop:=match e.loc with|.cell a=>e.sync=M/\∃b,ρ b a.block/\(e.write=J->¬kC w b)|.obj r=>e.sync=M/\∃b,ρ b r/\(e.write=J->¬kC w b)|.mark m=>m.bare|_=>False
structure qh(ok:iO)(ρ ρ':iI)(w w1 wa wa1:U)(es:Array ak):Prop where
 le:ρ.le ρ'
 rel:jz ok ρ' w1 wa1
 new:∀{b b'},ρ' b b'->ρ b b'\/(w.heap.size<=b/\wa.heap.size<=b')
 size:w.heap.size<=w1.heap.size
 vR:wa.heap.size<=wa1.heap.size
 all:∀b',wa.heap.size<=b'->b'<wa1.heap.size->∃b,ρ' b b'
 out:∀b',b'<wa.heap.size->(∀b,¬ρ b b')->wa1.heap[b']?=wa.heap[b']?
 shut:∀b,kC w b->w1.heap[b]?=w.heap[b]?/\∀b',ρ b b'->wa1.heap[b']?=wa.heap[b']?
 EI:∀b,b<w.heap.size->kC w1 b->kC w b
 same:w.heap.size=wa.heap.size->(∀{b b'},ρ b b'->b=b')->(∀{b b'},ρ' b b'->b=b')/\w1.heap.size=wa1.heap.size
 ev:∀e∈es,vn ρ' w1 e
 Bf:w.drawn<=w1.drawn
 tape:w1.tape=w.tape
 os:w1.os=w.os
 output:w1.output=w.output
 JJ:wa1.drawn=wa.drawn+(w1.drawn-w.drawn)
 JI:wa1.tape=wa.tape
 Hl:wa1.os=wa.os
 JK:wa1.output=wa.output
def qh.refl{w:U}(h:jz ok ρ w i):qh ok ρ ρ w w i i #[]:=⟨iI.le.refl _,h,λx=>V x,Z _,Z _,λb a c=>by omega,λ_ _ _=>rfl,λ_ _=>⟨rfl,λ_ _=>rfl⟩,λ_ _ x=>x,λx y=>⟨y,x⟩,by simp,Z _,rfl,rfl,rfl,by omega,rfl,rfl,rfl⟩
def jz.lt{w:U}(h:jz ok ρ w i){b:Nat}(a:ρ b v):b<w.heap.size/\v<i.heap.size:=by obtain⟨o,e,d,c,_⟩:=h.obj a;grind
def kC.congr{w w1:U}{b:Nat}(h:kC w b)(e:w1.heap[b]?=w.heap[b]?):kC w1 b:=by unfold kC at*;rw[e];exact h
def vn.mono{w w1:U}{e:ak}(h:vn ρ w e)(i:ρ.le ρ')(hs:∀b j,ρ b j->kC w1 b->kC w b):vn ρ' w1 e:=by obtain⟨g,wr,k⟩:=e;unfold vn at*;cases g with|cell a=>obtain⟨d,b,c,f⟩:=h;exact⟨d,b,i _ _ c,λx y=>f x<|hs _ _ c y⟩|obj r=>obtain⟨d,b,c,f⟩:=h;exact⟨d,b,i _ _ c,λx y=>f x<|hs _ _ c y⟩|mark m=>exact h|output=>exact h|goroutines=>exact h
def qh.trans{k f:iI}{w w1:U}{q o:Array ak}(t:jz ok ρ w j)(h:qh ok ρ k w w1 j l q)(g:qh ok k f w1 i l m o):qh ok ρ f w i j m<|q++o where
 le:=h.le.trans g.le;rel:=g.rel;new:=λ{b a}x=>by have s1:=h.size;have s2:=h.vR;rcases g.new x with x|⟨u,v⟩;(.exact h.new x);omega
 size:=aX h.size g.size;vR:=aX h.vR g.vR;all:=λa c d=>by by_cases p:a<l.heap.size;(.obtain⟨b,x⟩:=h.all a c p;exact⟨b,g.le _ _ x⟩);.exact g.all a (by omega) d
 out:=λa c d=>by rw[g.out a (bV c h.vR) λb x=>?_,h.out a c d];rcases h.new x with y|⟨_,y⟩;(.exact d b y);.omega
 shut:=λb x=>by obtain⟨c,d⟩:=h.shut b x;obtain⟨s,r⟩:=g.shut b<|x.congr c;exact⟨s.trans c,λa y=>(r a<|h.le _ _ y).trans<|d a y⟩
 EI:=λb p x=>h.EI b p<|g.EI b (bV p h.size) x;same:=λx y=>g.same (h.same x y).2 (h.same x y).1;ev:=λe n=>by rcases Array.mem_append.1 n with n|n;(.exact(h.ev e n).mono g.le λb a x y=>g.EI b (h.rel.lt x).1 y);.exact g.ev e n
 Bf:=aX h.Bf g.Bf;tape:=g.tape.trans h.tape;os:=g.os.trans h.os;output:=g.output.trans h.output;JJ:=by have:=h.Bf;have:=g.Bf;rw[g.JJ,h.JJ];omega
 JI:=g.JI.trans h.JI;Hl:=g.Hl.trans h.Hl;JK:=g.JK.trans h.JK
def jz.cell{w:U}(h:jz ok ρ w i){a a':X}(d:jK ρ a a')(b:w.cell? a=I y):∃e,i.cell? a'=I e/\iH ok ρ y e:=by obtain⟨o,m,g,k,j⟩:=h.obj d.1;unfold aP at*;rw[g]at b;rw[k];cases j with|cells f t p=>simp only at b⊢;rw[<-d.2.2,<-d.2.1];split at b;(.cases b);.rename_i hs;rw[if_neg hs];rcases f.get? a.off with⟨e1,_⟩|⟨u,n,e1,e2,e3⟩;(.grind);grind|map f c=>cases b|number h l=>cases b
def jz.noCell{w:U}(h:jz ok ρ w i){a:X}(g:jK ρ a r)(j:w.cell? a=N)(b:Bool):∃x,w.farLoad P a b=.error x:=by obtain⟨o,m,f,n,d⟩:=h.obj g.1;unfold World.farLoad;rw[f];cases d with|cells e t k=>simp|map e c=>simp|number h l=>simp
def jz.adP{w:U}(h:jz ok ρ w i){a:X}(g:jK ρ a r)(v:F)(b:Bool):∃x,w.farStore P a v b=.error x:=by obtain⟨o,k,e,m,d⟩:=h.obj g.1;unfold World.farStore;rw[e];cases d with|cells f t j=>simp|map f c=>simp|number h l=>simp
def jz.frozen{w:U}(h:jz ok ρ w i){a:X}(m:jK ρ a r)(g:w.cell? a=I y)(k:w.frozen? a=M):i.frozen? r=M:=by obtain⟨o,v,s,q,n⟩:=h.obj m.1;unfold aP at g;unfold bX at*;rw[s]at k g;rw[q];cases n with|cells p t f=>rename_i x A fr e;obtain⟨lo,hi⟩:=fr;obtain⟨j,b⟩:=e;simp only at k⊢;rw[<-m.2.1];(cases d:(decide (j<=a.off)&&decide (a.off<b))with|false=>rfl|true=>simp only[bq,decide_eq_true_eq]at d;have:=f.H4 a.off d.1 d.2;grind)|map p c=>rfl|number h l=>cases g
def uU(w:U)(a:X)(v:F)(b:Nat):(w.setCell a v).heap[b]?=if b=a.block then(w.heap[b]?).map (λ|ai c d frozen=>ai (if a.spot.isSome then c else c.setIfInBounds a.off v) d frozen|o=>o)else w.heap[b]?:=by unfold World.setCell;grind
def size_setCell(w:U)(a:X)(v:F):(w.setCell a v).heap.size=w.heap.size:=by simp
def Kw{w:U}(h:jz ok ρ w i){a:X}(n:jK ρ a r){L:F}(hv:iH ok ρ y L){u:F}(s:w.cell? a=I u)(hf:w.frozen? a=M):qh ok ρ ρ w (w.setCell a y) i (i.setCell r L) #[⟨.cell r,J,M⟩]:=by
 obtain⟨o,o',m,S,h3⟩:=h.obj n.1;have R:∃x E t fr g,o=ai x t fr/\o'=ai E t g/\iV ok ρ x E/\xa fr g:=by unfold aP at s;rw[m]at s;cases h3 with|cells H t C=>grind|map H c=>cases s|number h l=>cases s
 obtain⟨x,E,t,fr,g,rfl,rfl,H,C⟩:=R;have j:a.spot.isSome=M:=by unfold aP at s;grind
 have aa:a.off<x.size:=by unfold aP at s;grind
 have q:¬kC w a.block:=by rintro⟨B,T,hi,e,d⟩;rw[m]at e;cases e;unfold bX at hf;grind
 have D:∀b,kC w b->b≠a.block:=λb k e=>q<|e▸k;refine⟨iI.le.refl _,⟨h.inj,by simpa[size_setCell]using h.gs,λhh=>?_,λ{b A}k=>?_,h.out⟩,λx=>V x,by simp,by simp,λA m S=>by rw[size_setCell]at S;omega,λA _ Q=>?_,λb hs=>⟨?_,λA k=>?_⟩,λb k hs=>?_,λx B=>⟨B,by simp_all⟩,?_,Z _,rfl,rfl,rfl,by simp,rfl,rfl,rfl⟩;.obtain⟨B,u,f,e⟩:=h.zero hh;rw[uU,e];grind
 .by_cases e:b=a.block;(.subst e;have G:=h.inj.fn k n.1;subst G;refine⟨ai (x.setIfInBounds a.off y) t fr,ai (E.setIfInBounds r.off L) t g,?_,?_,?_⟩;(.rw[uU,if_pos rfl,m];simp[j]);(.rw[uU,if_pos rfl,S];simp[<-n.2.2,j]);.rw[<-n.2.1];exact .cells (H.set hv _) t C);.have G:A≠r.block:=λx=>e<|h.inj.inj (x▸k) n.1;obtain⟨p,p',q1,q2,q3⟩:=h.obj k;exact⟨p,p',by rw[uU,if_neg e];exact q1,by rw[uU,if_neg G];exact q2,q3⟩
 .rw[uU,if_neg<|show¬A=r.block fromλe=>Q a.block (e▸n.1)]
 .rw[uU,if_neg<|D b hs]
 .rw[uU,if_neg<|show¬A=r.block fromλe=>D b hs (h.inj.inj (e▸k) n.1)]
 .by_cases e:b=a.block;(.subst e;exfalso;refine q ?_;obtain⟨B,T,hi,e,d⟩:=hs;rw[uU,if_pos rfl,m]at e;simp[j]at e;obtain⟨e1,e2,e3⟩:=e;subst e1 e2 e3;exact⟨x,t,hi,m,by simpa using d⟩);.exact hs.congr<|by rw[uU,if_neg e]
 .intro e he;(obtain rfl:e=⟨.cell r,J,M⟩:=by simpa using he);refine⟨rfl,a.block,n.1,λ_ hs=>q ?_⟩;obtain⟨B,T,hi,e,d⟩:=hs;rw[uU,if_pos rfl,m]at e;simp[j]at e;obtain⟨e1,e2,e3⟩:=e;subst e1 e2 e3;exact⟨x,t,hi,m,by simpa using d⟩
def G6{w:U}(h:jz ok ρ w i){r:Nat}(a:ρ r v){x p:Array Y}{c:Nat}(o:kI ok ρ x.toList p.toList)(A:∀x t f,w.heap[r]?≠I (ai x t f)):qh ok ρ ρ w {w with heap:=w.heap.setIfInBounds r<|aj x c} i {i with heap:=i.heap.setIfInBounds v<|aj p c} #[⟨.obj v,J,M⟩]:=by
 have j:=(h.lt a).1;have g:=(h.lt a).2;have n:¬kC w r:=by rintro⟨y,D,hi,e,m⟩;exact A _ _ _ e
 have k:¬kC {w with heap:=w.heap.setIfInBounds r<|aj x c} r:=by rintro⟨y,D,hi,e,m⟩;simp[j]at e
 refine⟨iI.le.refl _,⟨h.inj,by simpa using h.gs,λB=>?_,λ{b l}d=>?_,h.out⟩,λx=>V x,by simp,by simp,λl H E=>by simp at E;omega,λl _ C=>?_,λb hs=>⟨?_,λl d=>?_⟩,λb d hs=>?_,λx y=>⟨y,by simpa using x⟩,?_,Z _,rfl,rfl,rfl,by simp,rfl,rfl,rfl⟩;.obtain⟨y,u,f,e⟩:=h.zero B;grind
 .by_cases e:b=r;(.subst e;have s:=h.inj.fn d a;subst s;exact⟨_,_,by simp[j],by simp[g],.map o c⟩);.have s:l≠v:=λx=>e<|h.inj.inj (x▸d) a;obtain⟨q,L,q1,q2,G⟩:=h.obj d;grind
 .grind
 .grind
 .simp only[Array.getElem?_setIfInBounds];rw[if_neg<|show¬v=l fromλe=>n (h.inj.inj (e▸d) a▸hs)]
 .by_cases e:b=r;(.grind);.exact hs.congr<|by grind
 .intro e o;(obtain rfl:e=⟨.obj v,J,M⟩:=by simpa using o);exact⟨rfl,r,a,λ_ hs=>k hs⟩
def MK{w:U}(h:jz ok ρ w i)(t:ni ok ρ Q T):∃ρ':iI,ρ.le ρ'/\ρ'.jv ok/\ρ' w.heap.size i.heap.size/\qh ok ρ ρ' w {w with heap:=w.heap.push Q} i {i with heap:=i.heap.push T} #[]:=by
 have g:ρ.le λb c=>ρ b c\/(b=w.heap.size/\c=i.heap.size):=λ_ _ x=>V x;have j:iI.jv ok λb c=>ρ b c\/(b=w.heap.size/\c=i.heap.size):=by constructor;(.rintro a b c(x|⟨n,m⟩)(y|⟨B,s⟩);(.exact h.inj.fn x y);(.have:=(h.lt x).1;omega);(.have:=(h.lt y).1;omega);.omega);(.rintro a H b(x|⟨n,m⟩)(y|⟨B,s⟩);(.exact h.inj.inj x y);(.have:=(h.lt x).2;omega);(.have:=(h.lt y).2;omega);.omega);.rintro a b(x|⟨n,m⟩)A;(.exact h.inj.kV x A);.have:=h.gs;omega
 have old:∀b,b<w.heap.size->(w.heap.push Q)[b]?=w.heap[b]?:=λb d=>by grind
 have k:∀b,b<i.heap.size->(i.heap.push T)[b]?=i.heap[b]?:=λb d=>by grind
 have l:∀b,kC w b->b<w.heap.size:=by rintro b⟨y,G,hi,e,g⟩;grind
 refine⟨_,g,j,K ⟨rfl,rfl⟩,g,⟨j,by have:=h.gs;simp;omega,λp=>?_,λ{b c}d=>?_,h.out⟩,λx=>?_,by simp,by simp,λc D C=>?_,λc d _=>k c d,λb hs=>⟨old b<|l b hs,λc d=>k c (h.lt d).2⟩,λb d hs=>hs.congr (old b d).symm,λx y=>⟨λE=>?_,by simp[x]⟩,by simp,Z _,rfl,rfl,rfl,by simp,rfl,rfl,rfl⟩;.obtain⟨y,u,f,e⟩:=h.zero p;grind
 .rcases d with d|⟨rfl,rfl⟩;(.obtain⟨q,r,q1,q2,v⟩:=h.obj d;exact⟨q,r,by grind,by grind,v.mono g⟩);.exact⟨Q,T,by simp,by simp,t.mono g⟩
 .grind
 .grind
 grind
def Jb{w:U}(h:jz ok ρ w i){e:ak}(c:vn ρ w e):qh ok ρ ρ w w i i #[e]:=⟨iI.le.refl _,h,λx=>V x,Z _,Z _,λb d f=>by omega,λ_ _ _=>rfl,λ_ _=>⟨rfl,λ_ _=>rfl⟩,λ_ _ x=>x,λx y=>⟨y,x⟩,λg a=>(by simpa using a)▸c,Z _,rfl,rfl,rfl,by omega,rfl,rfl,rfl⟩
def R9{w:U}(h:jz ok ρ w i){a:X}(b:jK ρ a r)(c:w.cell? a=I y):qh ok ρ ρ w w i i #[⟨.cell r,M,M⟩]:=Jb h ⟨rfl,a.block,b.1,λh=>by cases h⟩
def Oq{w:U}(h:jz ok ρ w i){r:Nat}(a:ρ r v):qh ok ρ ρ w w i i #[⟨.obj v,M,M⟩]:=Jb h ⟨rfl,r,a,λh=>by cases h⟩
def acb{w:U}(h:jz ok ρ w i){m:Mark}(a:m.bare):qh ok ρ ρ w w i i #[⟨.mark m,M,J⟩]:=Jb h a
def afj{w:U}(h:jz ok ρ w i):qh ok ρ ρ w {w with drawn:=w.drawn+1} i {i with drawn:=i.drawn+1} #[]:=⟨iI.le.refl _,⟨h.inj,h.gs,h.zero,h.obj,h.out⟩,λx=>V x,Z _,Z _,λb a c=>absurd c<|Nat.not_lt.2 a,λ_ _ _=>rfl,λ_ _=>⟨rfl,λ_ _=>rfl⟩,λ_ _ x=>x,λx y=>⟨y,x⟩,by simp,Nat.le_succ _,rfl,rfl,rfl,by simp,rfl,rfl,rfl⟩
section
variable{α β:Type}{R:iI->α->β->Prop}
def Ad(m:Sem α):∀{T:Sem β}{ρ:iI}{w G:U}{S esa:Array ak}{a:α}{w1:U}{A:Array ak},iw ok P R ρ m T->jz ok ρ w G->m.runT P w S=(.ok a w1,A)->(∀i,w.drawn+i<w1.drawn->w.tape (w.drawn+i)=G.tape (G.drawn+i))->∃ρ' b j p,T.runT P G esa=(.ok b j,esa++p)/\R ρ' a b/\qh ok ρ ρ' w w1 G j p:=by
 have aa:∀{m:Sem α}{w:U}{S:Array ak}{a:α}{w1:U}{A:Array ak},j9 P m->m.runT P w S=(.ok a w1,A)->False:=by intro m w S a w1 A hd g;obtain⟨x,w',hx,_⟩:=hd w;simp_all
 induction m with|pure a=>intro T ρ w G S esa a1 w1 A h s g B;obtain⟨b,rfl,hR⟩:=h;simp only[W,Prod.mk.injEq,Result.ok.injEq]at g;obtain⟨⟨rfl,rfl⟩,rfl⟩:=g;exact⟨ρ,b,G,#[],by simp[W],hR,qh.refl s⟩|load md ad k C=>intro T ρ w G S esa a1 w1 A h s g B;rcases h with h|⟨a',k',hm,rfl,ha,hk⟩;(.grind);subst hm;simp only[W]at g;(cases hc:w.cell? ad with|none=>obtain⟨x,hx⟩:=s.noCell (P:=P) ha hc<|ax==aQ;grind|some v=>obtain⟨v',ac,hv⟩:=s.cell ha hc;rw[hc]at g;obtain⟨ρ',b,j,p,L,E,H⟩:=C v (esa:=esa.push ⟨.cell a',M,ax==aQ⟩) (hk v v' hv) s g B;refine⟨ρ',b,j,#[⟨.cell a',M,M⟩]++p,?_,E,(R9 s ha hc).trans s H⟩;simp only[W,ac,L];simp;rfl)|store md ad v k C=>intro T ρ w G S esa a1 w1 A h s g B;rcases h with h|⟨a',v',k',hm,rfl,ha,hv,hk⟩;(.grind);subst hm;(have key:∀{u:F},w.cell? ad=I u->w.frozen? ad=M->k.runT P (w.setCell ad v) (S.push ⟨.cell ad,J,ax==aQ⟩)=(.ok a1 w1,A)->(∀x,v'≠aq x)->(∀x,v'≠ar x)->∃ρ' b j p,(bh ax a' v' k').runT P G esa=(.ok b j,esa++p)/\R ρ' a1 b/\qh ok ρ ρ' w w1 G j p:=by intro u hc hf g n1 n2;obtain⟨u',ac,-⟩:=s.cell ha hc;have ah:=s.frozen ha hc hf;have D:=Kw s ha hv hc hf;obtain⟨ρ',b,j,p,L,E,H⟩:=C (esa:=esa.push ⟨.cell a',J,ax==aQ⟩) hk D.rel g B;refine⟨ρ',b,j,#[⟨.cell a',J,M⟩]++p,?_,E,D.trans s H⟩;cases v' with|agg x=>grind|tuple x=>grind|_=>(simp only[W,ac,ah,L];simp;rfl));(cases hv with|agg hx=>simp only[W]at g;cases g|tuple hx=>simp only[W]at g;cases g|_=>simp only[W]at g;cases hc:w.cell? ad with|none=>obtain⟨x,hx⟩:=s.adP (P:=P) ha _<|ax==aQ;rw[hc,hx]at g;cases g|some u=>rw[hc]at g;cases hf:w.frozen? ad with|true=>grind|false=>simp only[hf]at g;exact key hc hf (by simpa using g) (λx e=>by first|(cases e;done)|(subst e;exact absurd ‹Ju _› id)|(subst e;exact absurd ‹Cc _› id)) (λx e=>by first|(cases e;done)|(subst e;exact absurd ‹Ju _› id)|(subst e;exact absurd ‹Cc _› id)))|new o k C=>intro T ρ w G S esa a1 w1 A h s g B;rcases h with h|⟨o',k',rfl,ho,hk⟩;(.grind);obtain⟨ai,am,hi,ae,D⟩:=MK s ho;simp only[W]at g;obtain⟨ρ',b,j,p,L,E,H⟩:=C w.heap.size (esa:=esa) (hk ai am hi _ _ ae) D.rel g B;refine⟨ρ',b,j,#[]++p,?_,E,D.trans s H⟩;simp only[W,L];simp|shape r k C=>intro T ρ w G S esa a1 w1 A h s g B;rcases h with h|⟨r',k',rfl,Q,hk⟩;(.grind);simp only[W]at g;obtain⟨o,o',L,E,H⟩:=s.obj Q;(have e:G.shape? r'=w.shape? r:=by unfold World.shape?;rw[L,E];cases H with|cells hx t hf=>simp[hx.size]|number h l=>rfl|map hx c=>rfl);obtain⟨ρ',b,j,p,g1,g2,g3⟩:=C _ (esa:=esa) (hk _) s g B;exact⟨ρ',b,j,p,by simp only[W,e,g1],g2,g3⟩|freeze a n k C=>intro T ρ w G S esa a1 w1 A h s g B;exact(aa h g).elim|frozen a k C=>intro T ρ w G S esa a1 w1 A h s g B;rcases h with h|⟨a',k',rfl,hk⟩;(.grind);simp only[W]at g;obtain⟨ρ',b,j,p,L,E,H⟩:=C _ (esa:=esa) (hk _<|G.frozen? a') s g B;exact⟨ρ',b,j,p,by simp only[W,L],E,H⟩|getObj r k C=>intro T ρ w G S esa a1 w1 A h s g B;rcases h with h|⟨hh,rfl⟩|⟨r',k',rfl,Q,hk,al⟩;(.grind);(.obtain⟨y,u,f,e⟩:=s.zero hh;simp only[W,e]at g;cases g);simp only[W]at g;obtain⟨o,o',L,E,H⟩:=s.obj Q;rw[L]at g;(cases H with|cells hx t hf=>cases g|number ha l=>simp only[ay]at g;obtain⟨ρ',b,j,p,g1,g2,g3⟩:=C _ (esa:=esa.push ⟨.obj r',M,M⟩) (al _ _ l ha) s g B;refine⟨ρ',b,j,#[⟨.obj r',M,M⟩]++p,?_,g2,(Oq s Q).trans s g3⟩;simp only[W,E,ay,g1];simp|map hx c=>simp only[ay]at g;obtain⟨ρ',b,j,p,g1,g2,g3⟩:=C _ (esa:=esa.push ⟨.obj r',M,M⟩) (hk _ _ c hx) s g B;refine⟨ρ',b,j,#[⟨.obj r',M,M⟩]++p,?_,g2,(Oq s Q).trans s g3⟩;simp only[W,E,ay,g1];simp)|setObj r o k C=>intro T ρ w G S esa a1 w1 A h s g B;rcases h with h|⟨hh,rfl⟩|⟨r',k',x,x',c,rfl,rfl,Q,he,hk⟩;(.grind);(.obtain⟨y,u,f,e⟩:=s.zero hh;simp only[W,e]at g;cases g);simp only[W]at g;obtain⟨o,o',L,E,H⟩:=s.obj Q;rw[L]at g;(cases H with|cells hx t hf=>cases g|number ha l=>simp only[ay]at g;have D:=G6 (c:=c) s Q he (λx t f e=>by grind);obtain⟨ρ',b,j,p,g1,g2,g3⟩:=C (esa:=esa.push ⟨.obj r',J,M⟩) hk D.rel g B;refine⟨ρ',b,j,#[⟨.obj r',J,M⟩]++p,?_,g2,D.trans s g3⟩;simp only[W,E,ay,g1];simp|map hx d=>simp only[ay]at g;have D:=G6 (c:=c) s Q he (λx t f e=>by grind);obtain⟨ρ',b,j,p,g1,g2,g3⟩:=C (esa:=esa.push ⟨.obj r',J,M⟩) hk D.rel g B;refine⟨ρ',b,j,#[⟨.obj r',J,M⟩]++p,?_,g2,D.trans s g3⟩;simp only[W,E,ay,g1];simp)|choose q k C=>intro T ρ w G S esa a1 w1 A h s g B;rcases h with h|⟨k',rfl,hk⟩;(.grind);simp only[W]at g;by_cases hq:q.forced=J;(.rw[if_pos hq]at g;obtain⟨ρ',b,j,p,L,E,H⟩:=C _ (esa:=esa) (hk 0) s g B;exact⟨ρ',b,j,p,by simp only[W,if_pos hq,L],E,H⟩);.rw[if_neg hq]at g;have D:=afj s;obtain⟨ρ',b,j,p,L,E,H⟩:=C _ (esa:=esa) (hk _) D.rel g (λi hi=>by have:=B (i+1) (by grind);grind);have aj:=H.Bf;simp only at aj;have h0:=B 0 (by omega);simp only[Nat.add_zero]at h0;refine⟨ρ',b,j,#[]++p,?_,E,D.trans s H⟩;simp only[W,if_neg hq,<-h0,L];simp|sys c k C=>intro T ρ w G S esa a1 w1 A h s g B;exact(aa h g).elim|program k C=>intro T ρ w G S esa a1 w1 A h s g B;rcases h with h|⟨k',rfl,hk⟩;(.grind);simp only[W]at g;obtain⟨ρ',b,j,p,L,E,H⟩:=C _ (esa:=esa) hk s g B;exact⟨ρ',b,j,p,by simp only[W,L],E,H⟩|mark mk k C=>intro T ρ w G S esa a1 w1 A h s g B;rcases h with h|⟨k',rfl,hm,hk⟩;(.grind);simp only[W]at g;obtain⟨ρ',b,j,p,L,E,H⟩:=C (esa:=esa.push ⟨.mark mk,M,J⟩) hk s g B;refine⟨ρ',b,j,#[⟨.mark mk,M,J⟩]++p,?_,E,(acb s hm).trans s H⟩;simp only[W,L];simp|halt h=>simp
end
end
section
variable{ok:iO}{ρ ρ':iI}{P:z}
abbrev VR(ok:iO):iI->F->F->Prop:=λρ=>iH ok ρ
abbrev AR:iI->X->X->Prop:=λρ=>jK ρ
abbrev SR(ok:iO):iI->Array F->Array F->Prop:=λρ=>iV ok ρ
abbrev ER{c:Type}:iI->c->c->Prop:=λ_ a b=>a=b
abbrev UR:iI->Unit->Unit->Prop:=λ_ _ _=>True
section
variable{α β α' β':Type}{R:iI->α->β->Prop}{R':iI->α'->β'->Prop}
def iw.imp{i:iI->α->β->Prop}{m:Sem α}{c:Sem β}(h:iw ok P R ρ m c)(hi:ρ.jv ok)(j:∀ρ' a b,R ρ' a b->i ρ' a b):iw ok P i ρ m c:=by
 have e:∀{g:Type}(m:Sem g),m.bind au=m:=by intro g m;induction m with|pure a=>rfl|halt h=>rfl|_=>simp only[az, *]
 have:=iw.bind h (f:=au) hi λρ' _ _ a b d=>⟨b,rfl,j _ _ _ d⟩;rw[show(m>>=au)=m.bind au from rfl,show(c>>=au)=c.bind au from rfl,e,e]at this;exact this
def yl{f:z->Sem α}{a:z->Sem β}(h:iw ok P R ρ (f P)<|a P):iw ok P R ρ (program>>=f)<|program>>=a:=K ⟨_,rfl,h⟩
def mj{t:O}{f:TypeDesc->Sem α}{a:TypeDesc->Sem β}(h:∀d,P.underlying t=I d->iw ok P R ρ (f d) (a d)):iw ok P R ρ (underlying t>>=f)<|underlying t>>=a:=by refine K ⟨_,rfl,?_⟩;simp only[az];cases e:P.underlying t with|none=>exact iw.halt _ _|some d=>exact h d e
def vZ{t:O}{f:TypeInfo->Sem α}{a:TypeInfo->Sem β}(h:∀d,P.info? t=I d->iw ok P R ρ (f d) (a d)):iw ok P R ρ (typeInfo t>>=f)<|typeInfo t>>=a:=by refine K ⟨_,rfl,?_⟩;simp only[az];cases e:P.info? t with|none=>exact iw.halt _ _|some d=>exact h d e
def qH{t:O}{f:Nat->Sem α}{a:Nat->Sem β}(h:∀d,P.info? t=I d->iw ok P R ρ (f d.size) (a d.size)):iw ok P R ρ (sizeOf t>>=f)<|sizeOf t>>=a:=by refine K ⟨_,rfl,?_⟩;simp only[az];cases e:P.info? t with|none=>exact iw.halt _ _|some d=>exact h d e
def wL{t:O}(b:∀d v,P.info? t=I d->d.zero=I v->Flat v){f:F->Sem α}{a:F->Sem β}(h:∀v,Flat v->iw ok P R ρ (f v) (a v)):iw ok P R ρ (zeroValue t>>=f)<|zeroValue t>>=a:=by refine K ⟨_,rfl,?_⟩;simp only[az];cases e:P.info? t with|none=>exact iw.halt _ _|some d=>show iw ok P R ρ (az (match d.zero with|I v=>pure v|N=>unsupported (.resourceLimit "a value of more than 2^22 cells")) f) (az (match d.zero with|I v=>pure v|N=>unsupported (.resourceLimit "a value of more than 2^22 cells")) a);cases e2:d.zero with|none=>exact iw.halt _ _|some v=>exact h v<|b d v e e2
def Na{t:O}{f:Bool->Sem α}{a:Bool->Sem β}(h:∀b,iw ok P R ρ (f b)<|a b):iw ok P R ρ (isAgg t>>=f)<|isAgg t>>=a:=by refine K ⟨_,rfl,?_⟩;simp only[az];cases e:P.underlying t with|none=>exact iw.halt _ _|some d=>cases d<;>exact h _
def Ek{q:Question}{f:Nat->Sem α}{a:Nat->Sem β}(h:∀n,iw ok P R ρ (f n)<|a n):iw ok P R ρ (choose q>>=f)<|choose q>>=a:=K ⟨_,rfl,h⟩
def aes{mk:Mark}(b:mk.bare){f:Unit->Sem α}{a:Unit->Sem β}(h:iw ok P R ρ (f ())<|a ()):iw ok P R ρ (mark mk>>=f)<|mark mk>>=a:=K ⟨_,rfl,b,h⟩
def F2{n:Nat}{f:Unit->Sem α}{a:Unit->Sem β}(h:iw ok P R ρ (f ())<|a ()):iw ok P R ρ (askRoom n>>=f)<|askRoom n>>=a:=by
 unfold askRoom;split;.exact aes (mk:=.noRoom) trivial h
 .exact h
def Rm{a:X}(d:jK ρ a r){f:F->Sem α}{c:F->Sem β}(h:∀v b,iH ok ρ v b->iw ok P R ρ (f v) (c b)):iw ok P R ρ (load a>>=f)<|load r>>=c:=K ⟨r,_,rfl,rfl,d,h⟩
def P6{a:X}(e:jK ρ a r)(d:iH ok ρ y b){f:Unit->Sem α}{c:Unit->Sem β}(h:iw ok P R ρ (f ())<|c ()):iw ok P R ρ (store a y>>=f)<|store r b>>=c:=K ⟨r,b,_,rfl,rfl,e,d,h⟩
def ze{r:Nat}(g:ρ r w){f:Obj->Sem α}{b:Obj->Sem β}(h:∀(x e:Array Y)c,kI ok ρ x.toList e.toList->iw ok P R ρ (f<|aj x c) (b<|aj e c))(i:∀a d l,jK ρ a d->iw ok P R ρ (f<|aA a l) (b<|aA d l)):iw ok P R ρ (getObj r>>=f)<|getObj w>>=b:=K<|K ⟨w,_,rfl,g,h,i⟩
def C3(a:ok.kU){f:Obj->Sem α}{m:Sem β}:iw ok P R ρ (getObj 0>>=f) m:=K<|V ⟨a,rfl⟩
def Df{r:Nat}(b:ρ r w){f:Option (O×Nat)->Sem α}{a:Option (O×Nat)->Sem β}(h:∀s,iw ok P R ρ (f s)<|a s):iw ok P R ρ (shape r>>=f)<|shape w>>=a:=K ⟨w,_,rfl,b,h⟩
def Hj(c:ni ok ρ Q T){f:Nat->Sem α}{a:Nat->Sem β}(h:∀(ρ':iI),ρ.le ρ'->ρ'.jv ok->∀r b,ρ' r b->iw ok P R ρ' (f r) (a b)):iw ok P R ρ (newObj Q>>=f)<|newObj T>>=a:=K ⟨T,_,rfl,c,h⟩
end
def px{α:Type}(h:Halt)(a:h.fair:=by exact trivial):j9 P (.halt h:Sem α):=λw=>⟨h,w,rfl,a⟩
def LL{α:Type}{q:Question}{f:Nat->Sem α}(h:∀n,j9 P<|f n):j9 P<|choose q>>=f:=by
 intro w;show∃h a,bY P (bj q _) w=_/\_;simp only[bY];split;.exact h _ _
 .exact h _ _
def Yt{α:Type}{f:z->Sem α}(h:j9 P<|f P):j9 P<|program>>=f:=λw=>h w
def OK{α:Type}(x y:Int)(s:Bool)(c:bl):j9 P (runtimePanic<|.bounds x y s c:Sem α):=λw=>⟨_,w,rfl,trivial⟩
def wY{α:Type}(m:String):j9 P (runtimePanic<|.error m:Sem α):=λw=>⟨_,w,rfl,trivial⟩
def WB{α:Type}(m:String):j9 P (runtimePanic<|.plain m:Sem α):=λw=>⟨_,w,rfl,trivial⟩
def BS{α:Type}:j9 P (runtimePanic .nilDeref:Sem α):=λw=>⟨_,w,rfl,trivial⟩
def m9{α β:Type}{m:Sem α}{f:α->Sem β}(h:j9 P m):j9 P<|m>>=f:=h.bind f
def Bd{α:Type}(k:bd)(x y:Int)(c:bl):j9 P (boundsPanic k x y c:Sem α):=by
 unfold boundsPanic;split;.exact LL λn=>OK _ _ _ _
 .exact OK _ _ _ _
def Sa{a:X}(c:jK ρ a r)(n:Nat):∀(i:Nat){acc b:Array F},iV ok ρ acc b->iw ok P (SR ok) ρ (loadCellsFrom a i n acc) (loadCellsFrom r i n b):=by induction n with|zero=>intro i acc b h;exact iw.ret h|succ n e=>intro i acc b h;exact Rm (c.add i) λv f d=>e (i+1) (h.push d)
def NU{a:X}(b:jK ρ a r)(n:Nat):iw ok P (SR ok) ρ (loadCells a n)<|loadCells r n:=Sa b n 0 iV.nil
def BF{a:X}(b:jK ρ a r)(h:jf ok ρ t A)(i:Nat):iw ok P UR ρ (storeCells a t i)<|storeCells r A i:=by induction t generalizing A i with|nil=>cases h;exact iw.ret trivial|cons v t d=>cases h with|cons c hs=>exact P6 (b.add i) c<|d hs<|i+1
def OC(hi:ρ.jv ok){a:X}(c:jK ρ a r)(t:O):iw ok P (VR ok) ρ (loadVar t a)<|loadVar t r:=by unfold loadVar;refine Na λb=>?_;cases b with|true=>simp only[if_true];exact qH λd _=>iw.bind (NU c _) hi λρ' h _ x i f=>iw.ret (iV.agg f)|false=>simp only[bF,if_false];exact K ⟨r,_,rfl,rfl,c,λv g e=>⟨g,rfl,e⟩⟩
def Yw{a:X}(f:jK ρ a r)(c:iH ok ρ y b)(t:O):iw ok P UR ρ (storeVar t a y)<|storeVar t r b:=by
 unfold storeVar;refine qH λd _=>?_;have e:=c.cells.size;rw[<-e];split;.exact iw.halt _ _
 .exact BF f c.cells 0
def iV.M0(h:Flat y):iV ok ρ y.cells y.cells:=(Flat.rel h).cells
def xa.refl(f:Nat×Nat):xa f f:=⟨λ_ a b=>⟨a,b⟩,id⟩
def yO(h:iV ok ρ d e)(t:O):iw ok P AR ρ (newRow t d)<|newRow t e:=Hj (.cells h t<|xa.refl _) λρ' b hi r c a=>iw.ret ⟨a,rfl,rfl⟩
def Mb(h:iH ok ρ y a)(t:O):iw ok P AR ρ (newVar t y)<|newVar t a:=yO h.cells t
def Ge(h:iH ok ρ y a):iw ok P ER ρ (asIntOf y)<|asIntOf a:=by cases h<;>first|exact iw.ret rfl|exact iw.halt _ _
def Ep(h:iH ok ρ y a):iw ok P ER ρ (asInt y)<|asInt a:=by cases h<;>first|exact iw.ret rfl|exact iw.halt _ _
def ZS(h:iH ok ρ y a):iw ok P ER ρ (asBool y)<|asBool a:=by cases h<;>first|exact iw.ret rfl|exact iw.halt _ _
def Cp(h:iH ok ρ y a):iw ok P AR ρ (cg y)<|cg a:=by cases h with|ptr h=>exact iw.ret h|_=>exact iw.halt _ _
def aez(h:iH ok ρ y a):iw ok P AR ρ (asAddr y)<|asAddr a:=by cases h with|ptr h=>exact iw.ret h|od=>exact iw.jY BS|_=>exact iw.halt _ _
def Nb(h:iV ok ρ e f)(t:O)(off:Nat):iw ok P (VR ok) ρ (part t e off)<|part t f off:=by unfold part;refine Na λb=>?_;cases b with|true=>simp only[if_true];exact qH λd _=>iw.ret (iV.agg<|h.extract _ _)|false=>simp only[bF,if_false];rcases h.get? off with⟨c,a⟩|⟨v,i,c,a,g⟩;(.rw[c,a];exact iw.halt _ _);.rw[c,a];exact iw.ret g
end
section
variable{ok:iO}{ρ ρ':iI}{P:z}
def T6(hi:ρ.jv ok)(h:iH ok ρ y b)(t:O):iw ok P (VR ok) ρ (cj t y)<|cj t b:=iw.bind (Cp h) hi λ_ e c a f d=>OC c d t
def Zb(hi:ρ.jv ok)(h:iH ok ρ y b){d:F}(i:iH ok ρ c d)(t:O):iw ok P UR ρ (ck t y c)<|ck t b d:=iw.bind (Cp h) hi λ_ f g a j e=>Yw e (i.mono f) t
def Qh(t:O)(c:∀d v,P.info? t=I d->d.zero=I v->Flat v)(hi:ρ.jv ok):iw ok P (VR ok) ρ (cx t J<|ar #[])<|cx t J<|ar #[]:=wL c λv e=>iw.bind (Mb (Flat.rel e) t) hi λ_ _ _ a f b=>iw.ret (.ptr b)
def Vj(hi:ρ.jv ok)(h:iH ok ρ y b)(t:O):iw ok P (VR ok) ρ (cz t y)<|cz t b:=iw.bind (Mb h t) hi λ_ _ _ a d c=>iw.ret (.ptr c)
def aaP(hi:ρ.jv ok)(j:∀fs f d,P.underlying H=I (.struct fs)->fs[w]?=I f->P.info? f.type=I d->d.size≠0)(h:iH ok ρ y c):iw ok P (VR ok) ρ (bG H y w)<|bG H c w:=by unfold bG;refine mj λd hd=>?_;cases d with|struct fs=>(cases e:fs[w]? with|none=>simp only[e];exact iw.halt _ _|some f=>simp only[e];refine iw.bind (Cp h) hi λ_ o i a m l=>?_;refine iw.bind ?_ i λ_ _ _ b n k=>iw.ret (.ptr k);unfold fieldPlace;refine qH λd g=>?_;rw[if_neg<|j fs f d hd e g,if_neg<|j fs f d hd e g];exact iw.ret<|l.add _)|_=>exact iw.halt _ _
def Su(hi:ρ.jv ok){t:O}{w i A:F}(p:iH ok ρ y w)(r:iH ok ρ i A):iw ok P (VR ok) ρ (bH t y i)<|bH t w A:=by
 unfold bH;refine iw.bind (Ge r) hi λ_ E j a b q=>?_;obtain⟨k,n⟩:=a;subst q;replace p:=p.mono E;simp only[];have tail:∀{ρ:iI},ρ.jv ok->∀{base f:Option X}{len:Nat}{g:O}(h:Bool),(base=N/\f=N\/∃a o,base=I a/\f=I o/\jK ρ a o)->iw ok P (VR ok) ρ (match base with|I a=>if 0<=n/\n<(len)then do let s<-sizeOf g;pure (ah<|I<|a.add<|n.toNat*s)else if h then unsupported (.noEntry "op/indexAddr.an index out of range at an array of length 0 or 1 (ledger 616)")else boundsPanic k n len .index|N=>boundsPanic k n 0 .index) (match f with|I a=>if 0<=n/\n<(len)then do let s<-sizeOf g;pure (ah<|I<|a.add<|n.toNat*s)else if h then unsupported (.noEntry "op/indexAddr.an index out of range at an array of length 0 or 1 (ledger 616)")else boundsPanic k n len .index|N=>boundsPanic k n 0 .index):=by rintro ρ hi base f len g h(⟨rfl,rfl⟩|⟨a,o,rfl,rfl,u⟩);(.exact iw.jY<|Bd _ _ _ _);.simp only[];split;(.exact qH λd _=>iw.ret (.ptr<|u.add _));.cases h;(.simp only[bF,if_false];exact iw.jY<|Bd _ _ _ _);.simp only[if_true];exact iw.halt _ _
 refine mj λd hd=>?_;cases d with|array len g=>simp only[];refine iw.bind (Cp p) j λ_ _ m D B C=>?_;show iw ok P (VR ok) _ (underlying t>>=_) (underlying t>>=_);refine mj λv e=>?_;rw[hd]at e;cases e;exact tail m _<|K ⟨D,B,rfl,rfl,C⟩|slice g=>(cases p with|mz l c=>simp only[];refine mj λv e=>?_;rw[hd]at e;cases e;exact iw.jY<|Bd _ _ _ _|slice u l c=>simp only[];refine mj λv e=>?_;rw[hd]at e;cases e;exact tail j _<|K ⟨_,_,rfl,rfl,u⟩|dead o=>simp only[];refine mj λv e=>?_;rw[hd]at e;cases e;simp only[];rw[if_neg<|by omega,if_neg<|by simp];exact iw.jY<|Bd _ _ _ _|_=>exact iw.halt _ _)|_=>exact iw.halt _ _
def Jx{e:F}(h:iH ok ρ y e)(f:Nat)(c:bl)(hi:ρ.jv ok):iw ok P ER ρ (aD y f c)<|aD e f c:=by
 unfold aD;refine iw.bind (Ge h) hi λ_ _ _ a b d=>?_;obtain⟨k,n⟩:=a;subst d;simp only[];split;.exact iw.ret rfl
 .exact iw.jY<|Bd _ _ _ _
def tM(ok:iO)(ρ:iI)(a b:Option F):Prop:=(a=N/\b=N)\/∃v c,a=I v/\b=I c/\iH ok ρ v c
def tM.mono(g:ρ.le ρ'){a b:Option F}(h:tM ok ρ a b):tM ok ρ' a b:=by
 rcases h with h|⟨v,c,f,e,d⟩;.exact V h
 .exact K ⟨v,c,f,e,d.mono g⟩
def Jr(a:Bool)(len cap:Nat){lo e j b k d:Option F}(o:tM ok ρ lo e)(B:tM ok ρ j b)(p:tM ok ρ k d)(hi:ρ.jv ok):iw ok P ER ρ (aE a len cap lo j k)<|aE a len cap e b d:=by unfold aE;rcases p with⟨rfl,rfl⟩|⟨v,L,rfl,rfl,C⟩<;>rcases B with⟨rfl,rfl⟩|⟨u,H,rfl,rfl,y⟩<;>rcases o with⟨rfl,rfl⟩|⟨x,G,rfl,rfl,q⟩<;>dsimp only<;>(refine iw.bind (R:=ER) (by first|exact iw.ret rfl|exact Jx C _ _ hi) hi λA g f m E s=>?_;subst s;refine iw.bind (R:=ER) (by first|exact iw.ret rfl|exact iw.halt _ _|exact Jx (y.mono g) _ _ f) f λr i c h Q t=>?_;subst t;refine iw.bind (R:=ER) (by first|exact iw.ret rfl|exact Jx (q.mono<|g.trans i) _ _ c) c λw _ _ l D n=>?_;subst n;exact iw.ret rfl)
def Gk{e:F}(h:iH ok ρ y e)(c:bl)(hi:ρ.jv ok):iw ok P (λ_ a b=>a=b/\a=0) ρ (aD y 0 c)<|aD e 0 c:=by
 unfold aD;refine iw.bind (Ge h) hi λ_ _ _ a b d=>?_;obtain⟨k,n⟩:=a;subst d;simp only[];split;.exact iw.ret ⟨rfl,by omega⟩
 .exact iw.jY<|Bd _ _ _ _
def UN{lo g k d n f:Option F}(o:tM ok ρ lo g)(C:tM ok ρ k d)(q:tM ok ρ n f)(hi:ρ.jv ok):iw ok P (λ_ a b=>a=b/\a=(0,0,0)) ρ (aE J 0 0 lo k n)<|aE J 0 0 g d f:=by unfold aE;rcases q with⟨rfl,rfl⟩|⟨v,S,rfl,rfl,p⟩<;>rcases C with⟨rfl,rfl⟩|⟨u,Q,rfl,rfl,A⟩<;>rcases o with⟨rfl,rfl⟩|⟨x,H,rfl,rfl,s⟩<;>dsimp only<;>(refine iw.bind (R:=λ_ a b=>a=b/\a=0) (by first|exact iw.ret ⟨rfl,rfl⟩|exact Gk p _ hi) hi λy i c m L w=>?_;obtain⟨rfl,rfl⟩:=w;refine iw.bind (R:=λ_ a b=>a=b/\a=0) (by first|exact iw.ret ⟨rfl,rfl⟩|exact iw.halt _ _|exact Gk (A.mono i) _ c) c λt j e h G B=>?_;obtain⟨rfl,rfl⟩:=B;refine iw.bind (R:=λ_ a b=>a=b/\a=0) (by first|exact iw.ret ⟨rfl,rfl⟩|exact Gk (s.mono<|i.trans j) _ e) e λD _ _ l E r=>?_;obtain⟨rfl,rfl⟩:=r;exact iw.ret ⟨rfl,rfl⟩)
def F1(P:z)(t:O):Prop:=∀d,P.underlying t=I d->(∃n e,d=.array n e)\/∃e,d=.slice e
def W5(hi:ρ.jv ok){t:O}(B:F1 P t)(w:iH ok ρ y b){lo l A i v g:Option F}(o:tM ok ρ lo l)(r:tM ok ρ A i)(s:tM ok ρ v g):iw ok P (VR ok) ρ (bI t y lo A v)<|bI t b l i g:=by
 unfold bI;refine mj λd hd=>?_;rcases B d hd with⟨n,j,rfl⟩|⟨j,rfl⟩;.simp only[];refine iw.bind (Cp w) hi λC f h a u m=>?_;refine iw.bind (Jr M _ _ (o.mono f) (r.mono f) (s.mono f) h) h λ_ c _ p q e=>?_;subst e;refine qH λd _=>iw.ret (.slice ?_ _ _);split;(.exact m.mono c);.exact(m.mono c).add _
 .simp only[];unfold Instr.slice;refine mj λD k=>?_;rw[hd]at k;cases k;cases w with|mz len cap=>refine iw.bind (Jr J _ _ o r s hi) hi λ_ c _ p q e=>?_;subst e;refine qH λd _=>iw.ret ?_;simp only[Option.map_none,ite_self];exact .mz _ _|slice m len cap=>refine iw.bind (Jr J _ _ o r s hi) hi λ_ c _ p q e=>?_;subst e;refine qH λd _=>iw.ret ?_;simp only[Option.map_some];split;(.exact .slice (m.mono c) _ _);.exact .slice ((m.mono c).add _) _ _|dead u=>refine iw.bind (UN o r s hi) hi λ_ c _ p q e=>?_;obtain⟨rfl,rfl⟩:=e;refine qH λd _=>iw.ret ?_;simp only[if_true];exact .dead u|_=>exact iw.halt _ _
def sg.get(h:sg t):∀{v},v∈t->Flat v:=by induction t with|nil=>simp|cons u a b=>simp only[sg]at h;grind
def Flat.cells(h:Flat y):∀u∈y.cells,Flat u:=by
 intro u a;unfold bz at a;split at a;.rename_i x;obtain⟨l⟩:=x;simp only[Flat]at h;exact sg.get h<|by simpa using a
 grind
def iV.Ce(n:Nat){f:Nat->F}(h:∀i,Flat<|f i):iV ok ρ ((cA n).map f)<|(cA n).map f:=by unfold iV;refine jf.Et rfl λi v c a b=>?_;rw[a]at b;cases b;simp only[Array.toList_map,Array.toList_range,List.getElem?_map,Option.map_eq_some_iff]at a;obtain⟨j,_,rfl⟩:=a;exact Flat.rel<|h j
def Cm(h:∀u∈d,Flat u)(i:Nat):Flat<|d[i]!:=by
 by_cases hi:i<d.size;.grind
 .rw[getElem!_neg d i hi];exact trivial
def aaT(hi:ρ.jv ok)(t:O):iw ok P (VR ok) ρ (cD t N)<|cD t N:=Hj (.map .nil 0) λ_ _ _ r b a=>iw.ret (.map a)
def Ud{a:FuncId}(h:ok.fn a)(c:iV ok ρ d e)(b:iV ok ρ f g):iw ok P (VR ok) ρ (cE (.func a) d f)<|cE (.func a) e g:=by cases d;cases e;cases f;cases g;exact iw.ret<|.func h c b
def W6(hi:ρ.jv ok){t:O}(u:∀e d v,P.underlying t=I (.slice e)->P.info? e=I d->d.zero=I v->Flat v){l c q:F}(A:iH ok ρ l y)(x:iH ok ρ c q):iw ok P (VR ok) ρ (bJ t l c)<|bJ t y q:=by unfold bJ;refine mj λd hd=>?_;cases d with|slice f=>simp only[];refine iw.bind (Ep A) hi λw o m a b g=>?_;subst g;refine iw.bind (Ep<|x.mono o) m λh s j H b2 g=>?_;subst g;refine vZ λd C=>?_;split;(.split;(.exact iw.jY<|m9<|wY _);.split;(.exact iw.jY<|m9<|wY _);.exact iw.jY<|LL λn=>m9 (wY _));.refine F2 ?_;refine qH λG r=>?_;split;(.show iw ok P (VR ok) h (newRow f _>>=_) (newRow f _>>=_);exact iw.bind (yO (iV.Ce _ λi=>Cm (by simp) _) _) j λ_ _ _ B D k=>iw.ret (.slice k _ _));.refine wL (λe v E p=>u f e v hd E p) λv p=>?_;show iw ok P (VR ok) h (newRow f _>>=_) (newRow f _>>=_);exact iw.bind (yO (iV.Ce _ λi=>Cm p.cells _) _) j λ_ _ _ B D k=>iw.ret (.slice k _ _)|_=>exact iw.halt _ _
def Ca(ok:iO)(ρ:iI):List (Nat×F)->List (Nat×F)->Prop|[],[]=>True|(i,v)::l,(b,a)::c=>i=b/\iH ok ρ v a/\Ca ok ρ l c|_,_=>False
def iV.lay(c:iV ok ρ d e)(a:iV ok ρ f g)(off:Nat):iV ok ρ (f.zipIdx.foldl (λb p=>b.setIfInBounds (off+p.2) p.1) d)<|g.zipIdx.foldl (λb p=>b.setIfInBounds (off+p.2) p.1) e:=by obtain⟨l⟩:=f;obtain⟨h⟩:=g;replace a:jf ok ρ l h:=a;rw[<-cF,<-cF,cG,cG];simp only[];generalize 0=k;induction l generalizing h d e k with|nil=>cases a;exact c|cons v l i=>cases a with|cons j hs=>simp only[List.zipIdx_cons,List.foldl_cons];exact i (c.set j _) _ hs _
def Bn(a:Nat->Option (Nat×Nat)):∀{l d:List<|Nat×F}{x b:Array F},Ca ok ρ l d->iV ok ρ x b->(aU a x l=N/\aU a b d=N)\/∃y f,aU a x l=I y/\aU a b d=I f/\iV ok ρ y f|[],[],x,b,_,c=>K ⟨x,b,rfl,rfl,c⟩|[],(_,_)::_,_,_,h,_=>by cases h|(_,_)::_,[],_,_,h,_=>by cases h|(i,v)::l,(j,g)::d,x,b,h,c=>by obtain⟨rfl,e,hs⟩:=h;simp only[aU];cases a i with|none=>simp|some p=>obtain⟨off,size⟩:=p;simp only[<-e.cells.size,<-c.size];split;(.simp);.exact Bn a hs<|c.lay e.cells off
def abY{t:O}(s:∀d v,P.info? t=I d->d.zero=I v->Flat v){l q:Array<|Nat×F}(h:Ca ok ρ l.toList q.toList)(hi:ρ.jv ok):iw ok P (VR ok) ρ (bK t l)<|bK t q:=by unfold bK;refine wL s λv p=>?_;refine mj λd hd=>?_;cases d with|struct b=>simp only[];(have pl:∀(fs:List Field),∀{g j:Type}{R:iI->g->j->Prop}{ρ:iI}{f:List (Nat×Nat)->Sem g}{k:List (Nat×Nat)->Sem j},(∀x,iw ok P R ρ (f x)<|k x)->iw ok P R ρ ((fs.mapM λf=>do pure (f.offset,<-sizeOf f.type))>>=f) ((fs.mapM λf=>do pure (f.offset,<-sizeOf f.type))>>=k):=by intro fs;induction fs with|nil=>grind|cons x w u=>intro g j R ρ f k A;simp only[List.mapM_cons,bind_assoc];refine qH λd _=>?_;grind);rw[Array.mapM_eq_mapM_toList];simp only[bind_map_left];refine pl b.toList λa=>?_;rcases Bn (a.toArray[·]?) h (iV.M0 p)with⟨c,e⟩|⟨y,r,c,e,m⟩;(.rw[c,e];exact iw.halt _ _);.rw[c,e];exact iw.ret<|iV.agg m|array n o=>simp only[];refine qH λd _=>?_;rcases Bn (λi=>I (i*d.size,d.size)) h (iV.M0 p)with⟨c,e⟩|⟨y,r,c,e,m⟩;(.rw[c,e];exact iw.halt _ _);.rw[c,e];exact iw.ret<|iV.agg m|_=>exact iw.halt _ _
def PW{t:O}(o:∀e d v,P.underlying t=I (.slice e)->P.info? e=I d->d.zero=I v->Flat v)(len:Nat){l n:Array<|Nat×F}(h:Ca ok ρ l.toList n.toList)(hi:ρ.jv ok):iw ok P (VR ok) ρ (bM t len l)<|bM t len n:=by unfold bM;refine mj λd hd=>?_;cases d with|slice j=>simp only[];refine qH λg _=>?_;split;(.exact iw.halt _ _);.split;(.simp only[pure_bind];rcases Bn (λi=>I (i*g.size,g.size)) h (iV.Ce (len*g.size) (f:=λx=>(#[]:Array F)[x%(#[]:Array F).size]!) λi=>Cm (by simp) _)with⟨c,a⟩|⟨y,k,c,a,b⟩;(.rw[c,a];exact iw.halt _ _);.rw[c,a];exact iw.bind (yO b _) hi λ_ _ _ y k b=>iw.ret (.slice b _ _));.refine wL (λe v p m=>o j e v hd p m) λv m=>?_;simp only[pure_bind];rcases Bn (λi=>I (i*g.size,g.size)) h (iV.Ce (len*g.size) λi=>Cm m.cells _)with⟨c,a⟩|⟨y,k,c,a,b⟩;(.rw[c,a];exact iw.halt _ _);.rw[c,a];exact iw.bind (yO b _) hi λ_ _ _ y k b=>iw.ret (.slice b _ _)|_=>exact iw.halt _ _
def afR(h:iH ok ρ y a)(i:Nat):iw ok P (VR ok) ρ (bN y i)<|bN a i:=by cases h with|tuple d=>unfold bN;rcases iV.get? d i with⟨c,b⟩|⟨u,f,c,b,e⟩;(.simp only[c,b];exact iw.halt _ _);.simp only[c,b];exact iw.ret e|_=>exact iw.halt _ _
def OB(op:BinOp)(k:bd)(x y:Int):iw ok P (VR ok) ρ (Op.intArith op k x y)<|Op.intArith op k x y:=by unfold Op.intArith;split<;>first|exact iw.ret<|.int _ _|exact iw.halt _ _
def X3(op:BinOp)(k:bd)(x y:Int):iw ok P (VR ok) ρ (Op.intDiv op k x y)<|Op.intDiv op k x y:=by
 unfold Op.intDiv;split;.exact iw.jY<|wY _
 .split<;>first|exact iw.ret<|.int _ _|exact iw.halt _ _
def ack(op:BinOp)(x y:Int):iw ok P (VR ok) ρ (Op.intCmp op x y)<|Op.intCmp op x y:=by unfold Op.intCmp;split<;>first|exact iw.ret<|.bool _|exact iw.halt _ _
def acy{op:UnOp}(b:op=.not\/op=.neg)(h:iH ok ρ y a):iw ok P (VR ok) ρ (Op.unary op y)<|Op.unary op a:=by rcases b with rfl|rfl<;>cases h<;>first|exact iw.ret<|.bool _|(simp only[Op.unary];exact OB _ _ _ _)|exact iw.halt _ _
def afo(hi:ρ.jv ok){ts:Array O}{t:O}(o:iV ok ρ f g):iw ok P (VR ok) ρ (Builtin.len_ ts t f)<|Builtin.len_ ts t g:=by unfold Builtin.len_;cases e:ts[0]? with|none=>exact iw.halt _ _|some s=>rcases o.get? 0 with⟨h,i⟩|⟨v,q,h,i,a⟩;(.simp only[h,i];exact iw.halt _ _);.simp only[h,i];refine mj λd hd=>?_;cases d with|array n e=>cases a<;>exact iw.ret (.int _ _)|pointer b=>(have key:iw ok P (VR ok) ρ (underlying b>>=λd=>match d with|.array n _=>pure (goInt n)|_=>stuck "len: pointer to array expected") (underlying b>>=λd=>match d with|.array n _=>pure (goInt n)|_=>stuck "len: pointer to array expected"):=by refine mj λd _=>?_;cases d<;>first|exact iw.ret<|.int _ _|exact iw.halt _ _);omega|map k e=>(cases a with|oy=>exact iw.ret<|.int _ _|pW l r=>exact C3 l|map p=>refine ze p (λy j c m=>?_) λ_ _ _ _=>iw.halt _ _;(have e:y.size=j.size:=by simpa using m.length);show iw ok P (VR ok) ρ (pure<|goInt y.size) (pure<|goInt j.size);rw[e];exact iw.ret<|.int _ _|_=>exact iw.halt _ _)|slice e=>(cases a<;>first|exact iw.ret<|.int _ _|exact iw.halt _ _)|string=>(cases a<;>first|exact iw.ret<|.int _ _|exact iw.halt _ _)|chan d e=>cases a<;>exact iw.halt _ _|_=>cases a<;>exact iw.halt _ _
def RL(hi:ρ.jv ok){ts:Array O}{t:O}(i:iV ok ρ f g):iw ok P (VR ok) ρ (Builtin.cap_ ts t f)<|Builtin.cap_ ts t g:=by unfold Builtin.cap_;cases e:ts[0]? with|none=>exact iw.halt _ _|some s=>rcases i.get? 0 with⟨h,c⟩|⟨v,j,h,c,b⟩;(.simp only[h,c];exact iw.halt _ _);.simp only[h,c];refine mj λd hd=>?_;cases d with|array n e=>cases b<;>exact iw.ret (.int _ _)|pointer a=>(have key:iw ok P (VR ok) ρ (underlying a>>=λd=>match d with|.array n _=>pure (goInt n)|_=>stuck "cap: pointer to array expected") (underlying a>>=λd=>match d with|.array n _=>pure (goInt n)|_=>stuck "cap: pointer to array expected"):=by refine mj λd _=>?_;cases d<;>first|exact iw.ret<|.int _ _|exact iw.halt _ _);omega|slice e=>(cases b<;>first|exact iw.ret<|.int _ _|exact iw.halt _ _)|chan d e=>cases b<;>exact iw.halt _ _|_=>cases b<;>exact iw.halt _ _
end
end Go.Rel
