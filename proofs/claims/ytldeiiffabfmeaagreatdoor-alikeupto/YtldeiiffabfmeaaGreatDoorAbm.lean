/- - -/
import Derived.RegionTactic
import Derived.ChangeAlike
import Derived.BigRegion
import Derived.Deep.RegionLaw
import Derived.Deep.RegionHeld3
import Derived.Deep.DeepCutAuto
import Derived.Test.YtldeiiffabfmeaaGreatDoorAam
set_option linter.all false
set_option maxRecDepth 100000
set_option maxHeartbeats 4000000
open Go.IntKind renaming i64->F
open Go.Value renaming int->H,slice->V,bool->ae,pointer->ai,tuple->ak,agg->an,map->ax,ownBlock->aA
open Bool renaming true->I,false->Z,and_eq_true->Q,or_eq_true->aH
open Option renaming some->J,none->L
open Go renaming Value->S,World->U,Calls->aq,Addr->aE,TypeId->aF
open Go.Obj renaming cells->Y
open Go.RowKit renaming Below->y
open Go.RowKit.Below renaming refl->u,heap_setCell->az
open Go.Proofs.Tryz renaming prog->o,underlying3->aD,underlying119->aM,func208->aX,ntmps208->aY
open Int renaming le_refl->ah,toNat_natCast->aI
open Nat renaming le_refl->aj,zero_le->aN,le_trans->aP,lt_of_lt_of_le->aW,lt_succ_of_lt->aZ,zero_add->bd,lt_succ_self->bh,lt_or_ge->bj
open Go.Lit renaming int->ao
open Go.Ending renaming returned->ar
open Or renaming inr->au,inl->ay
open Go.Builtin renaming append_->aG
open List renaming foldl->aJ,foldl_append->aV,length_append->bg,flatMap_cons->bl
open Array renaming getElem?_eq_some_iff->aK
open Go.World renaming ownsRow_nil->aQ
open Option.some renaming injEq->aU
variable{w v x a b c:Nat}{d e f g h i:S}{j k l:U}{m n p:Int}{q:Go.DataW Unit}{r:Go.Program}
namespace Go.Proofs.YtldeiiffabfmeaaGreatDoor
section
open Go.RowKit Go.Maps
structure nm where
 key:Nat
 val:Int
 del:Bool
def ov:List nm->List S|[]=>[]|c::l=>H F c.key::H F c.val::ae c.del::ov l
def RB(l m:List nm):ov (l++m)=ov l++ov m:=by induction l with|nil=>rfl|cons p l a=>simp[ov,a]
structure jc where
 ab:Bool
 r:Nat->Int
 ch:List nm
 hs:Nat->Bool
 vl:Nat->Int
 nx:Nat
def qT(m:jc)(e a b c d:S)(f:Nat):Nat->S|0=>ae m.ab|1=>H F (m.r 0)|2=>H F (m.r 1)|3=>H F (m.r 2)|4=>H F (m.r 3)|5=>e|6=>a|7=>b|8=>c|9=>d|10=>ax (J f)|11=>H F m.nx|_=>undef
structure jy(w:U)(B mb xb:Nat)(a b c d:S)(n:Nat)(m:jc):Prop where
 ge:B<=mb/\B<=xb
 ex:∃vC,iJ w mb 249 12 (qT m vC a b c d xb)/\w.ownsRow B 229 3 vC m.ch.length (ov m.ch)/\vC.ownBlock≠some mb/\qk w vC
 ml:lF n w xb m.hs m.vl
def sh{w:U}{a b c d:S}{m:jc}(h:iJ w v 249 12<|qT m e a b c d x){A:Nat}(f:A<4):w.cell? ⟨v,1+A,L⟩=J (H F<|m.r A):=by have:=h.cell (j:=1+A) (by omega);rw[this];match A,f with|0,_|1,_|2,_|3,_=>rfl
def aab{w:U}{a b c d:S}{m:jc}(h:iJ w v 249 12<|qT m e a b c d x){A:Nat}(i:A<4)(g:Int):iJ (w.setCell ⟨v,1+A,L⟩<|H F g) v 249 12<|qT {m with r:=upd m.r A g} e a b c d x:=by refine(h.setCell (1+A)<|H F g).congr λj f=>?_;match A,i with|0,_=>(match j,f with|0,_|1,_|2,_|3,_|4,_|5,_|6,_|7,_|8,_|9,_|10,_|11,_=>rfl)|1,_=>(match j,f with|0,_|1,_|2,_|3,_|4,_|5,_|6,_|7,_|8,_|9,_|10,_|11,_=>rfl)|2,_=>(match j,f with|0,_|1,_|2,_|3,_|4,_|5,_|6,_|7,_|8,_|9,_|10,_|11,_=>rfl)|3,_=>match j,f with|0,_|1,_|2,_|3,_|4,_|5,_|6,_|7,_|8,_|9,_|10,_|11,_=>rfl
def jy.jr{w:U}{i:Nat}{a b c d:S}{n:Nat}{m:jc}(h:jy w v x i a b c d n m)(e:y w.heap.size w j):jy j v x i a b c d n m:=by
 obtain⟨t,q,f,s,C⟩:=h.ex;refine⟨h.ge,⟨t,q.below e,?_,s,C.move λg r=>e.block g (f.lt g r).2⟩,h.ml.block<|e.block i ?_⟩;.rcases f.2 with z|⟨g,cap,k,rfl,l,p,A⟩;(.exact⟨f.1,ay z⟩);.exact⟨f.1,au ⟨g,cap,k,rfl,l,by rw[e.block g (aK.1 p).1];exact p,A⟩⟩
 .obtain⟨D,l,_⟩:=h.ml;exact l.lt
def jy.lt{w:U}{f:Nat}{a b c d:S}{n:Nat}{m:jc}(h:jy w v x f a b c d n m):x<w.heap.size:=let⟨_,e,_⟩:=h.ex;e.lt
def jy.ne{w:U}{e:Nat}{a b c d:S}{n:Nat}{m:jc}(h:jy w v x e a b c d n m):x≠e:=by obtain⟨q,f,_⟩:=h.ex;obtain⟨p,⟨l,j,k,_⟩,_⟩:=h.ml;obtain⟨g,i,_⟩:=f;grind
def jy.set{w:U}{l:Nat}{a b c d:S}{n:Nat}{m k:jc}(h:jy w v x l a b c d n m){j:Nat}(D:k.ch=m.ch/\k.hs=m.hs/\k.vl=m.vl)(A:∀i,iJ w x 249 12 (qT m i a b c d l)->iJ (w.setCell ⟨x,j,L⟩ f) x 249 12 (qT k i a b c d l)):jy (w.setCell ⟨x,j,L⟩ f) v x l a b c d n k:=by
 have C:=h.ne;obtain⟨i,t,q,p,z⟩:=h.ex;obtain⟨e1,e2,e3⟩:=D;refine⟨h.ge,⟨i,A i t,?_,p,z.move λg M=>az _ _ _ _ λN=>p<|by grind⟩,?_⟩;.rw[e1];rcases q.2 with E|⟨g,cap,r,rfl,G,s,K⟩;(.exact⟨q.1,ay E⟩);.refine⟨q.1,au ⟨g,cap,r,rfl,G,?_,K⟩⟩;rw[az _ _ _ _<|by simp;intro e;exact p<|by simp[aA,e]];exact s
 .rw[e2,e3];exact h.ml.block<|az _ _ _ _<|by grind
structure Lo(w:U)(N:Nat)(k A X C:Int):Prop where
 i0:w.cell? ⟨N,0,none⟩=some (H F k)
 i1:w.cell? ⟨N,1,none⟩=some (H F A)
 i2:w.cell? ⟨N,2,none⟩=some (H F X)
 i3:w.cell? ⟨N,3,none⟩=some (H F C)
def wI(w:U)(k A X C:Int):Lo (w.alloc<|Y #[H F k,H F A,H F X,H F C] 161) w.heap.size k A X C:=⟨by simp,by simp,by simp,by simp⟩
def jy.drew{w:U}{e:Nat}{a b c d:S}{n:Nat}{m:jc}(h:jy w v x e a b c d n m):jy w.drew v x e a b c d n m:=h.jr (u _ _).drew
def jy.qP{w:U}{e:Nat}{a b c d:S}{n:Nat}{m:jc}(h:jy w v x e a b c d n m):v<=w.heap.size:=by have:=h.lt;have:=h.ge;omega
def jy.zV{w:U}{f:Nat}{a b c d:S}{n:Nat}{m:jc}(h:jy w v x f a b c d n m){A:Nat}(g:A<4)(e:Int):jy (w.setCell ⟨x,1+A,L⟩<|H F e) v x f a b c d n {m with r:=upd m.r A e}:=h.set ⟨rfl,rfl,rfl⟩ λj i=>aab i g e
def Qm(B g j:Nat)(a b c d:S)(n:Nat)(m:jc)(w:U)(h:jy w B g j a b c d n m)(k X C:Int)(A:Nat)(p:A<4):aq o 197 #[ai<|J ⟨g,0,L⟩,an #[H F k,H F A,H F X,H F C]] w λe l=>e=ar (ak #[])/\jy l B g j a b c d n {m with r:=upd m.r A X}/\y B w l:=by
 have i:y B w<|w.alloc<|Y #[H F k,H F A,H F X,H F C] 161:=(u _ _).alloc h.qP _;have f:=h.jr<|(u _ _).alloc (aj _)<|Y #[H F k,H F A,H F X,H F C] 161;obtain⟨i0,i1,i2,i3⟩:=wI w k A X C;have s:(A)<4:=by omega
 have t:(0)<=(A):=by omega
 go_enter Tryz.func197,Tryz.ntmps197;go_wp2_with fail;generalize(w.alloc<|Y #[H F k,H F A,H F X,H F C] 161)=w1 at*;obtain⟨x,q,-⟩:=f.ex;have v:=q.frozen;have c1:=sh q p;go_region;go_end0;exact⟨rfl,(f.zV p X).drew,((i.setCell f.ge.1 _).drew)⟩
def agu(B j l:Nat)(a b c d:S)(n:Nat)(m:jc)(w:U)(h:jy w B j l a b c d n m)(k:Int)(A X C:Nat)(p:A<4)(t:X<4)(z:C<4):aq o 206 #[ai<|J ⟨j,0,L⟩,an #[H F k,H F A,H F X,H F C]] w λe q=>e=ar (ak #[])/\jy q B j l a b c d n {m with r:=upd m.r A<|wrap64<|m.r X+m.r C}/\y B w q:=by
 have i:y B w<|w.alloc<|Y #[H F k,H F A,H F X,H F C] 161:=(u _ _).alloc h.qP _;have f:=h.jr<|(u _ _).alloc (aj _)<|Y #[H F k,H F A,H F X,H F C] 161;obtain⟨i0,i1,i2,i3⟩:=wI w k A X C;have G:(A)<4:=by omega
 have v:(0)<=(A):=by omega
 have s:(X)<4:=by omega
 have D:(0)<=(X):=by omega
 have x:(C)<4:=by omega
 have E:(0)<=(C):=by omega
 go_enter Tryz.func206,Tryz.ntmps206;go_wp2_with fail;generalize(w.alloc<|Y #[H F k,H F A,H F X,H F C] 161)=w1 at*;obtain⟨K,g,-⟩:=f.ex;have M:=g.frozen;have c1:=sh g p;have c2:=sh g t;have c3:=sh g z;go_region;go_end0;exact⟨rfl,(f.zV p _).drew,((i.setCell f.ge.1 _).drew)⟩
def XU(B j l:Nat)(a b c d:S)(n:Nat)(m:jc)(w:U)(h:jy w B j l a b c d n m)(k:Int)(A X C:Nat)(p:A<4)(t:X<4)(z:C<4):aq o 207 #[ai<|J ⟨j,0,L⟩,an #[H F k,H F A,H F X,H F C]] w λe q=>e=ar (ak #[])/\jy q B j l a b c d n {m with r:=upd m.r A<|wrap64<|m.r X-m.r C}/\y B w q:=by
 have i:y B w<|w.alloc<|Y #[H F k,H F A,H F X,H F C] 161:=(u _ _).alloc h.qP _;have f:=h.jr<|(u _ _).alloc (aj _)<|Y #[H F k,H F A,H F X,H F C] 161;obtain⟨i0,i1,i2,i3⟩:=wI w k A X C;have G:(A)<4:=by omega
 have v:(0)<=(A):=by omega
 have s:(X)<4:=by omega
 have D:(0)<=(X):=by omega
 have x:(C)<4:=by omega
 have E:(0)<=(C):=by omega
 go_enter Tryz.func207,Tryz.ntmps207;go_wp2_with fail;generalize(w.alloc<|Y #[H F k,H F A,H F X,H F C] 161)=w1 at*;obtain⟨K,g,-⟩:=f.ex;have M:=g.frozen;have c1:=sh g p;have c2:=sh g t;have c3:=sh g z;go_region;go_end0;exact⟨rfl,(f.zV p _).drew,((i.setCell f.ge.1 _).drew)⟩
def valOf(hs:Nat->Bool)(vl:Nat->Int)(k:Nat):Int:=if hs k then vl k else 0
def QI{n:Nat}{w:U}{b:Nat}{hs:Nat->Bool}{vl:Nat->Int}(h:lF n w b hs vl){k:Nat}(hk:k<100):(Instr.lookup 119 (ax<|J b) (H F k) Z).run o w=.ok (H F<|valOf hs vl k) w:=by obtain⟨m,g,j⟩:=h;have c:=keyOf_int_mk aD<|xp hk;obtain⟨x,a,i,e⟩:=g.lookup_int vV aM aD (Eu _) c;obtain⟨d,l⟩:=j k hk;rw[a];unfold valOf;cases f:hs k with|true=>grind|false=>rw[f]at d;have:=atKey_of_not_has d<|.lit<|ao F 0;grind
def V0(B g j:Nat)(a b c d:S)(n:Nat)(m:jc)(w:U)(h:jy w B g j a b c d n m)(k C:Int)(A X:Nat)(q:A<4)(v:X<100):aq o 198 #[ai<|J ⟨g,0,L⟩,an #[H F k,H F A,H F X,H F C]] w λe p=>e=ar (ak #[])/\jy p B g j a b c d n {m with r:=upd m.r A<|valOf m.hs m.vl X}/\y B w p:=by
 have i:y B w<|w.alloc<|Y #[H F k,H F A,H F X,H F C] 161:=(u _ _).alloc h.qP _;have f:=h.jr<|(u _ _).alloc (aj _)<|Y #[H F k,H F A,H F X,H F C] 161;obtain⟨i0,i1,i2,i3⟩:=wI w k A X C;have x:(A)<4:=by omega
 have s:(0)<=(A):=by omega
 go_enter Tryz.func198,Tryz.ntmps198;go_wp2_with fail;generalize(w.alloc<|Y #[H F k,H F A,H F X,H F C] 161)=w1 at*;obtain⟨z,l,-⟩:=f.ex;have D:=l.frozen;have c1:=sh l q;have E:w1.cell? ⟨g,10,L⟩=J (ax<|J j):=l.cell (by omega);have t:=QI f.drew.ml v;go_region;go_end0;exact⟨rfl,(f.zV q _).drew,((i.setCell f.ge.1 _).drew)⟩
def WY{w:U}{a b c d:S}{m:jc}(h:iJ w v 249 12<|qT m e a b c d x)(f:Nat):iJ (w.setCell ⟨v,11,L⟩<|H F f) v 249 12<|qT {m with nx:=f} e a b c d x:=by refine(h.setCell 11<|H F f).congr λj g=>?_;match j,g with|0,_|1,_|2,_|3,_|4,_|5,_|6,_|7,_|8,_|9,_|10,_|11,_=>rfl
def jy.Ln{w:U}{f:Nat}{a b c d:S}{n:Nat}{m:jc}(h:jy w v x f a b c d n m)(e:Nat):jy (w.setCell ⟨x,11,L⟩<|H F e) v x f a b c d n {m with nx:=e}:=h.set ⟨rfl,rfl,rfl⟩ λi g=>WY g e
def adr(B p t:Nat)(a b c d:S)(n:Nat)(m:jc)(w:U)(h:jy w B p t a b c d n m)(k:Int)(A X C:Nat)(v:A<4)(q:X<4):aq o 208 #[ai<|J ⟨p,0,L⟩,an #[H F k,H F A,H F X,H F C]] w λe s=>e=ar (ak #[])/\jy s B p t a b c d n {m with nx:=if m.r A<m.r X then C else m.nx}/\y B w s:=by
 have i:y B w<|w.alloc<|Y #[H F k,H F A,H F X,H F C] 161:=(u _ _).alloc h.qP _;have f:=h.jr<|(u _ _).alloc (aj _)<|Y #[H F k,H F A,H F X,H F C] 161;obtain⟨i0,i1,i2,i3⟩:=wI w k A X C;have E:(A:Int)<4:=by omega
 have z:(0:Int)<=(A:Int):=by omega
 have D:(X:Int)<4:=by omega
 have G:(0:Int)<=(X:Int):=by omega
 by_cases l:m.r A<m.r X;.rw[if_pos l];go_enter aX,aY;go_wp2_with fail;clear h;generalize(w.alloc<|Y #[H F k,H F A,H F X,H F C] 161)=w1 at*;obtain⟨x,g,-⟩:=f.ex;have K:=g.frozen;have c1:=sh g v;have c2:=sh g q;have M:=g.cell (j:=11) (by omega);go_region;go_wp2;go_end0;exact⟨rfl,(f.drew.Ln C),((i.drew.setCell f.ge.1 _))⟩
 .rw[if_neg l];go_enter aX,aY;go_wp2_with fail;generalize(w.alloc<|Y #[H F k,H F A,H F X,H F C] 161)=w1 at*;obtain⟨x,g,-⟩:=f.ex;have c1:=sh g v;have c2:=sh g q;go_region;go_wp2;go_end0;exact⟨rfl,f.drew,i.drew⟩
def acJ{w:U}{a b c d:S}{m:jc}(h:iJ w v 249 12<|qT m e a b c d x)(f:Nat):iJ (((w.setCell ⟨v,0,L⟩<|ae I).setCell ⟨v,5,L⟩<|V L 0 0).setCell ⟨v,11,L⟩<|H F f) v 249 12<|qT {m with ab:=I,ch:=[],nx:=f} (V L 0 0) a b c d x:=by refine(((h.setCell 0<|ae I).setCell 5<|V L 0 0).setCell 11<|H F f).congr λj g=>?_;match j,g with|0,_|1,_|2,_|3,_|4,_|5,_|6,_|7,_|8,_|9,_|10,_|11,_=>rfl
def jy.QQ{w:U}{f:Nat}{a b c d:S}{n:Nat}{m:jc}(h:jy w v x f a b c d n m)(e:Nat):jy (((w.setCell ⟨x,0,L⟩<|ae I).setCell ⟨x,5,L⟩<|V L 0 0).setCell ⟨x,11,L⟩<|H F e) v x f a b c d n {m with ab:=I,ch:=[],nx:=e}:=by have i:=h.ne;obtain⟨l,g,j,k,_⟩:=h.ex;refine⟨h.ge,⟨_,acJ g e,aQ _ _ _ _,by simp[aA],qk.nil _ _ _⟩,h.ml.block ?_⟩;rw[az _ _ _ _<|by grind,az _ _ _ _<|by grind,az _ _ _ _<|by grind]
def aaM(B f l:Nat)(a b c:S)(g:Option aE)(nc i:Nat)(n:Nat)(m:jc)(w:U)(h:jy w B f l a b c (V g nc i) n m):aq o 195 #[ai<|J ⟨f,0,L⟩] w λe k=>e=ar (ak #[])/\jy k B f l a b c (V g nc i) n {m with ab:=I,ch:=[],nx:=nc}/\y B w k:=by obtain⟨q,d,-⟩:=h.ex;have r:=d.frozen;have c0:=d.cell (j:=0) (by omega);have c5:=d.cell (j:=5) (by omega);have c9:w.cell? ⟨f,9,L⟩=J (V g nc i):=d.cell (j:=9) (by omega);have p:=d.cell (j:=11) (by omega);go_enter Tryz.func195,Tryz.ntmps195;go_wp2;go_end0;exact⟨rfl,h.QQ nc,(((u _ _).setCell h.ge.1 _).setCell h.ge.1 _).setCell h.ge.1 _⟩
def acQ(B d g:Nat)(a b c:S)(j:Option aE)(nc i:Nat)(n:Nat)(m:jc)(w:U)(h:jy w B d g a b c (V j nc i) n m)(k A X C:Int):aq o 209 #[ai<|J ⟨d,0,L⟩,an #[H F k,H F A,H F X,H F C]] w λe p=>e=ar (ak #[])/\jy p B d g a b c (V j nc i) n {m with ab:=I,ch:=[],nx:=nc}/\y B w p:=by have f:y B w<|w.alloc<|Y #[H F k,H F A,H F X,H F C] 161:=(u _ _).alloc h.qP _;have l:=h.jr<|(u _ _).alloc (aj _)<|Y #[H F k,H F A,H F X,H F C] 161;go_enter Tryz.func209,Tryz.ntmps209;go_wp2_with fail;refine(aaM B d g a b c j nc i n m _ l).mono ?_;rintro e w1⟨rfl,q,r⟩;go_wp2_with fail;go_end0;exact⟨rfl,q,f.trans r⟩
def jy.mapped{w:U}{f:Nat}{a b c d:S}{n D:Nat}{m:jc}{hs:Nat->Bool}{vl:Nat->Int}(h:jy w v x f a b c d n m)(M:lF D j f hs vl)(A:∀k,k<w.heap.size->k≠f->j.heap[k]?=w.heap[k]?):jy j v x f a b c d D {m with hs:=hs,vl:=vl}:=by
 have G:=h.ne;obtain⟨z,O,l,P,T⟩:=h.ex;obtain⟨p,r1,r2,r3⟩:=O;have q:z.ownBlock≠J f:=by intro e;rcases l.2 with⟨rfl,_⟩|⟨g,cap,C,rfl,s,r,t⟩;(.simp[aA]at e);.simp only[aA,aU]at e;subst e;obtain⟨E,⟨W,N,R,_⟩,_⟩:=h.ml;grind
 refine⟨h.ge,⟨z,⟨p,by grind,r2,r3⟩,?_,P,T.move λg i=>A g (l.lt g i).2 λe=>q<|by rw[i,e]⟩,M⟩;rcases l.2 with K|⟨g,cap,C,rfl,s,r,t⟩;.exact⟨l.1,ay K⟩
 .refine⟨l.1,au ⟨g,cap,C,rfl,s,?_,t⟩⟩;rw[A g (aK.1 r).1];(.exact r);.rintro rfl;obtain⟨E,⟨W,N,R,_⟩,_⟩:=h.ml;grind
def U7{w:U}{a b c d:S}{m:jc}(h:iJ w v 249 12<|qT m e a b c d x)(l:List nm):iJ (w.setCell ⟨v,5,L⟩ f) v 249 12<|qT {m with ch:=l} f a b c d x:=by refine(h.setCell 5 f).congr λj g=>?_;match j,g with|0,_|1,_|2,_|3,_|4,_|5,_|6,_|7,_|8,_|9,_|10,_|11,_=>rfl
def jy.changed{w:U}{q:Nat}{a b c d:S}{n:Nat}{m:jc}(h:jy w v x q a b c d n m)(O:iJ w x 249 12<|qT m f a b c d q)(W:f.ownBlock≠J x)(l:List nm)(z:j.ownsRow v 229 3 i l.length<|ov l)(A:qk j i)(T:∀k,k<w.heap.size->J k≠f.ownBlock->j.heap[k]?=w.heap[k]?)(P:f.ownBlock≠J q):jy (j.setCell ⟨x,5,L⟩ i) v x q a b c d n {m with ch:=l}:=by
 have N:=h.ne;have s:iJ j x 249 12<|qT m f a b c d q:=by obtain⟨r,r1,r2,r3⟩:=O;exact⟨r,by grind,r2,r3⟩
 have p:i.ownBlock≠J x:=by intro e;rcases z.2 with⟨rfl,_⟩|⟨g,cap,E,rfl,t,C,D⟩;(.simp[aA]at e);.simp only[aA,aU]at e;subst e;obtain⟨r,r1,_⟩:=s;grind
 have M:q<w.heap.size:=by obtain⟨R,t,_⟩:=h.ml;exact t.lt
 refine⟨h.ge,⟨i,U7 s l,?_,p,A.move λg G=>az _ _ _ _ λX=>p<|by grind⟩,?_⟩;.rcases z.2 with K|⟨g,cap,E,rfl,t,C,D⟩;(.exact⟨z.1,ay K⟩);.refine⟨z.1,au ⟨g,cap,E,rfl,t,?_,D⟩⟩;rw[az _ _ _ _<|by simp;intro e;exact p<|by simp[aA,e]];exact C
 .refine h.ml.block ?_;rw[az _ _ _ _<|by grind];grind
def jy.YA{w:U}{i:Nat}{a b c d:S}{n:Nat}{m:jc}(h:jy w v x i a b c d n m)(j:w.ownsRow v 229 3 f m.ch.length<|ov m.ch):f.ownBlock≠J i:=by
 intro e;rcases j.2 with⟨rfl,_⟩|⟨g,cap,r,rfl,l,k,s⟩;.simp[aA]at e
 .simp only[aA,aU]at e;subst e;obtain⟨p,⟨z,q,t,_⟩,_⟩:=h.ml;grind
def Tryz.Ia:(Tryz.prog.info? 229).map (λi=>(i.zero,i.size,i.bytes))=J (J<|an #[H F 0,H F 0,ae Z],3,24):=by kernel_rfl
def IL{n:Nat}{w w1:U}{b:Nat}{hs:Nat->Bool}{vl:Nat->Int}(a:w.ownsMap o 3 (plainElem o 3) b n q)(f:GZ q hs vl){k:Nat}(g:w1.ownsMap o 3 (plainElem o 3) b (n+1)<|q.put (ao F k)<|.lit<|ao F m):lF (n+1) w1 b (upd hs k I)<|upd vl k m:=by
 refine⟨_,g,λj d=>?_⟩;by_cases e:j=k;.subst e;rw[upd_same,upd_same];exact⟨has_put_same a.isMap (by simp[WideAt.IsKeyLit]) _,λ_=>atKey_put_same a.isMap (by simp[WideAt.IsKeyLit]) _ _⟩
 . (have c:(ao F<|j)≠ao F (k):=by grind);rw[jq _ _ e,jq _ _ e,has_put_other c,atKey_put_other c];exact f j d
def Lr{n:Nat}{w w1:U}{b:Nat}{hs:Nat->Bool}{vl:Nat->Int}(c:w.ownsMap o 3 (plainElem o 3) b n q)(f:GZ q hs vl){k:Nat}(g:w1.ownsMap o 3 (plainElem o 3) b n<|q.del<|ao F k):lF n w1 b (upd hs k Z) vl:=by
 refine⟨_,g,λj d=>?_⟩;by_cases e:j=k;.subst e;rw[upd_same];exact⟨has_del_same,λh=>by cases h⟩
 . (have a:(ao F<|j)≠ao F (k):=by grind);rw[jq _ _ e,has_del_other a,atKey_del_other a];exact f j d
def qR{w:U}{base:Nat}{e:aF}{n:Nat}{f:List S}(h:w.ownsRow base e v d n f):∃a c,d=V a n c:=by
 rcases h.2 with⟨rfl,rfl⟩|⟨g,cap,b,rfl,_⟩;.simp
 simp
def jy.behind{w w1:U}{l:Nat}{a b c d:S}{n N:Nat}{m:jc}{hs:Nat->Bool}{vl:Nat->Int}(h:jy w v x l a b c d n m)(T:lF N w1 l hs vl)(A:w.grownBy w1<|J l):∃f i,iJ w1 x 249 12 (qT {m with hs:=hs,vl:=vl} (V f m.ch.length i) a b c d l)/\w1.ownsRow v 229 3 (V f m.ch.length i) m.ch.length (ov m.ch)/\(V f m.ch.length i).ownBlock≠J x/\(V f m.ch.length i).ownBlock≠J l/\jy w1 v x l a b c d N {m with hs:=hs,vl:=vl}/\y v w w1/\w1.cell? ⟨x,5,L⟩=J (V f m.ch.length i)/\v<=w1.heap.size/\qk w1 (V f m.ch.length i):=by
 have t:=h.mapped T λk hk C=>A.block k hk (by simpa using C);obtain⟨P,O,G,D,K⟩:=h.ex;have p:=h.YA G;have z:=K.move λg r=>A.block g (G.lt g r).2 λe=>p (by rw[r,e]);have s:=G.kept A<|au p;have q:iJ w1 x 249 12<|qT {m with hs:=hs,vl:=vl} P a b c d l:=by obtain⟨E,r1,r2,r3⟩:=O;exact⟨E,by rw[A.block x (aK.1 r1).1<|by simpa using h.ne];exact r1,r2,λj M=>by rw[r3 j M];match j,M with|0,_|1,_|2,_|3,_|4,_|5,_|6,_|7,_|8,_|9,_|10,_|11,_=>rfl⟩
 obtain⟨f,i,rfl⟩:=qR s;exact⟨f,i,q,s,D,p,t,(u _ _).grown A h.qP λb R=>by cases R;exact h.ge.2,q.cell<|by omega,t.qP,z⟩
def jy.LA{w1:U}{a b c d:S}{n:Nat}{m:jc}{p:Option aE}{k:Nat}{C:Obj}{l:List nm}(h:jy w1 w v x a b c d n m)(z:iJ w1 v 249 12<|qT m (V p m.ch.length k) a b c d x)(E:w1.ownsRow w 229 3 (V p m.ch.length k) m.ch.length<|ov m.ch)(g:(V p m.ch.length k).ownBlock≠J v)(A:(V p m.ch.length k).ownBlock≠J x)(q:j.ownsRow w 229 3 f l.length<|ov l)(D:qk j f)(s:(w1.alloc C).grownBy j (V p m.ch.length k).ownBlock):jy (j.setCell ⟨v,5,L⟩ f) w v x a b c d n {m with ch:=l}/\y w w1 j/\j.cell? ⟨v,5,L⟩=J (V p m.ch.length k)/\j.frozen? ⟨v,5,L⟩=Z:=by
 have r:=h.qP;have t:=h.jr<|(u _ _).alloc (aj _) C;have i:=z.alloc C;refine⟨t.changed i g l q D s.block A,((u _ _).alloc r _).grown s (by simp;omega) λb G=>(E.lt b G).1,?_,?_⟩;.have:=i.cell (j:=5) (by omega);refine Eq.trans ?_ this;exact World.cell?_of_block<|s.block v (by simp;exact aZ z.lt) λe=>g e.symm
 .rw[World.frozen?_of_block<|s.block v (by simp;exact aZ z.lt) λe=>g e.symm];exact i.frozen 5
def Z8(w:U)(a b c:S):∀j d,[a,b,c][j]?=J d->(w.alloc<|Y #[a,b,c] 229).cell? ((⟨w.heap.size,0,L⟩:aE).add j)=J d:=by intro j d f;have e:=(List.getElem?_eq_some_iff.1 f).1;have:=(km w [a,b,c] 229).cell e;rw[nT,bd,this];simp[lc,f]
def LG(w1:U)(B:Nat)(l:List nm)(p:Option aE)(n:Nat)(k:Nat)(x:Int)(q:Bool)(h:w1.ownsRow B 229 3 (V p l.length n) l.length<|ov l)(j:qk w1<|V p l.length n)(D:l.length<=1000)(w:B<=w1.heap.size):∃e d f,(∀ty,(aG #[(200:aF),200] ty #[V p l.length n,V (J<|Addr.mk w1.heap.size 0 L) 1 1]).run o (w1.alloc<|Y #[H F k,H F x,ae q] 229)=.ok (V e (l.length+1) d) f)/\f.ownsRow B 229 3 (V e (l.length+1) d) (l++[nm.mk k x q]).length (ov<|l++[nm.mk k x q])/\(w1.alloc<|Y #[H F k,H F x,ae q] 229).grownBy f (V p l.length n).ownBlock/\qk f (V e (l.length+1) d):=by
 obtain⟨i0,hi,s,t,r⟩:=info_parts Tryz.Ia;obtain⟨E,f,i,a,c,m⟩:=adA (w1.alloc<|Y #[H F k,H F x,ae q] 229) B 200 229 i0 (an #[H F 0,H F 0,ae Z]) 3 24 Tryz.underlying200 hi s t r rfl (by omega) (by intro v b;simp[Value.cells]at b;rcases b with rfl|rfl<;>trivial) _ _ _ (h.alloc _) (j.move λg C=>Below.heap_alloc _ _ _ (h.lt g C).2) ⟨w1.heap.size,0,L⟩ 1 1 [H F k,H F x,ae q] rfl (Z8 w1 _ _ _) (by intro v b;simp at b;rcases b with rfl|rfl|rfl<;>rfl) (by intro v b;simp at b;rcases b with rfl|rfl|rfl<;>trivial) (by omega) (by unfold maxLen;omega) (by omega) (by simp;omega);rcases a.2 with⟨rfl,z⟩|⟨g,cap,A,rfl,_⟩;.simp at z
 .exact⟨_,cap,f,i,by rw[RB,bg];exact a,c,m⟩
def VI(B D E:Nat)(a b c d:S)(n:Nat)(m:jc)(w:U)(h:jy w B D E a b c d n m)(k:Nat)(x:Int)(hk:k<100)(R:(ao F x).wf=I)(hn:n<=100000)(hc:m.ch.length<=1000):aq o 200 #[ai<|J ⟨D,0,L⟩,H F k,H F x] w λe P=>e=ar (ak #[])/\jy P B D E a b c d (n+1) {m with hs:=upd m.hs k I,vl:=upd m.vl k x,ch:=m.ch++[⟨k,x,Z⟩]}/\y B w P:=by
 obtain⟨i0,hi,ac,ae,ad⟩:=info_parts Tryz.Ia;have z:=keyOf_int_mk aD<|xp hk;obtain⟨Dm,r,T⟩:=h.ml;have cm:w.cell? ⟨D,10,L⟩=J (ax<|J E):=by obtain⟨vC,W,-⟩:=h.ex;exact W.cell (by omega)
 go_enter Tryz.func200,Tryz.ntmps200;go_wp2_with(first|(at_mapUpdate;refine wpList_mapUpdate_own _ rfl _ _ _ 119 rfl 3 3 vV aM _ E n _ rfl r (by unfold maxLen;omega) _ _ _ rfl rfl z _ [] (plainElem_int aD R) ?_;intro w1 i f;obtain⟨va,vc,A,s,K,M,t,N,c5,v,p⟩:=h.behind (IL r T i) f;clear i f cm)|(at_builtin;obtain⟨X,aa,w2,l,g,j,q⟩:=LG w1 B m.ch va vc k x Z s p hc v;obtain⟨G,O,ah,ff⟩:=t.LA A s K M g q j;have C:=t.ge.1;refine Gc rfl _ _ 200 200 rfl _ _ rfl rfl _ _ l ?_;clear j g t s A c5 h q p l));go_end0;exact⟨rfl,G,(N.trans O).setCell C _⟩
def Lt{w:U}{b:Nat}(h:w.mapTurned j b):w.grownBy j<|J b:=by obtain⟨f,e,a,d,g,rfl⟩:=h;refine⟨rfl,rfl,rfl,by simp[Go.ChangeMaps.setBlock],λk hk c=>?_⟩;simp only[Go.ChangeMaps.setBlock];grind
def Xl(B D C:Nat)(a b c d:S)(n:Nat)(m:jc)(w:U)(h:jy w B D C a b c d n m)(k:Nat)(hk:k<100)(P:m.ch.length<=1000):aq o 202 #[ai<|J ⟨D,0,L⟩,H F k] w λe O=>e=ar (ak #[])/\jy O B D C a b c d n {m with hs:=upd m.hs k Z,ch:=m.ch++[⟨k,0,I⟩]}/\y B w O:=by
 obtain⟨i0,hi,X,aa,W⟩:=info_parts Tryz.Ia;have A:=keyOf_int_mk aD<|xp hk;obtain⟨Dm,r,ht⟩:=h.ml;have cm:w.cell? ⟨D,10,L⟩=J (ax<|J C):=by obtain⟨vC,hr,-⟩:=h.ex;exact hr.cell (by omega)
 go_enter Tryz.func202,Tryz.ntmps202;go_wp2_with(first|(at_delete;refine wpList_delete_own _ rfl _ _ 119 3 rfl 3 vV aM _ C n Dm rfl r _ _ rfl A ?_;intro w1 j f;obtain⟨va,vc,v,t,G,K,s,M,c5,x,p⟩:=h.behind (Lr r ht j)<|Lt f;clear j f cm)|(at_builtin;obtain⟨R,T,w2,l,g,i,q⟩:=LG w1 B m.ch va vc k 0 I t p P x;obtain⟨E,N,ac,ff⟩:=s.LA v t G K g q i;have z:=s.ge.1;refine Gc rfl _ _ 200 200 rfl _ _ rfl rfl _ _ l ?_;clear i g s t v c5 h q p l));go_end0;exact⟨rfl,E,(M.trans N).setCell z _⟩
def Sy(B f i:Nat)(a b c d:S)(n:Nat)(m:jc)(w:U)(h:jy w B f i a b c d n m)(k X C:Int)(A:Nat)(p:A<100)(r:m.ch.length<=1000):aq o 201 #[ai<|J ⟨f,0,L⟩,an #[H F k,H F A,H F X,H F C]] w λe l=>e=ar (ak #[])/\jy l B f i a b c d n {m with hs:=upd m.hs A Z,ch:=m.ch++[⟨A,0,I⟩]}/\y B w l:=by have g:y B w<|w.alloc<|Y #[H F k,H F A,H F X,H F C] 161:=(u _ _).alloc h.qP _;have j:=h.jr<|(u _ _).alloc (aj _)<|Y #[H F k,H F A,H F X,H F C] 161;go_enter Tryz.func201,Tryz.ntmps201;go_wp2_with fail;refine(Xl B f i a b c d n m _ j A p r).mono ?_;rintro e w1⟨rfl,q,s⟩;go_wp2_with fail;go_end0;exact⟨rfl,q,g.trans s⟩
def X5(B g j:Nat)(a b c d:S)(n:Nat)(m:jc)(w:U)(h:jy w B g j a b c d n m)(k C:Int)(A X:Nat)(E:A<100)(q:X<4)(s:(ao F<|m.r X).wf=I)(z:n<=100000)(t:m.ch.length<=1000):aq o 199 #[ai<|J ⟨g,0,L⟩,an #[H F k,H F A,H F X,H F C]] w λe p=>e=ar (ak #[])/\jy p B g j a b c d (n+1) {m with hs:=upd m.hs A I,vl:=upd m.vl A<|m.r X,ch:=m.ch++[⟨A,m.r X,Z⟩]}/\y B w p:=by
 have i:y B w<|w.alloc<|Y #[H F k,H F A,H F X,H F C] 161:=(u _ _).alloc h.qP _;have f:=h.jr<|(u _ _).alloc (aj _)<|Y #[H F k,H F A,H F X,H F C] 161;obtain⟨i0,i1,i2,i3⟩:=wI w k A X C;have x:(X)<4:=by omega
 have D:(0)<=(X):=by omega
 go_enter Tryz.func199,Tryz.ntmps199;go_wp2_with fail;generalize(w.alloc<|Y #[H F k,H F A,H F X,H F C] 161)=w1 at*;obtain⟨M,l,-⟩:=f.ex;have K:=l.frozen;have c2:=sh l q;go_region_with(go_at_call 200;refine(VI B g j a b c d n m _ f.drew A (m.r X) E s z t).mono ?_;rintro e N⟨rfl,v,G⟩);all_goals(go_end0;exact⟨rfl,v,(i.drew).trans G⟩)
def lQ(hs:Nat->Bool)(vl:Nat->Int)(lo:Nat):Nat->Int|0=>0|k+1=>if hs (lo+k)then wrap64 (lQ hs vl lo k+vl (lo+k))else lQ hs vl lo k
def mY(hs:Nat->Bool)(lo:Nat)(k:Nat):Nat:=jN (λj=>hs<|lo+j) k
def En{hs:Nat->Bool}{vl:Nat->Int}{lo k:Nat}(h:hs (lo+k)=I):lQ hs vl lo (k+1)=wrap64 (lQ hs vl lo k+vl (lo+k)):=by simp[lQ,h]
def DY{hs:Nat->Bool}{vl:Nat->Int}{lo k:Nat}(h:hs (lo+k)=Z):lQ hs vl lo (k+1)=lQ hs vl lo k:=by simp[lQ,h]
def MZ(hs:Nat->Bool)(vl:Nat->Int)(lo k:Nat):(ao F<|lQ hs vl lo k).wf=I:=by induction k with|zero=>rfl|succ k a=>unfold lQ;split;(.exact wrap64_wf _);.exact a
def Ta{n:Nat}{w:U}{b:Nat}{hs:Nat->Bool}{vl:Nat->Int}(h:lF n w b hs vl){k:Nat}(hk:k<100):(Instr.lookup 119 (ax<|J b) (H F k) I).run o w=.ok (ak #[H F<|valOf hs vl k,ae<|hs k]) w:=by obtain⟨m,i,j⟩:=h;have c:=keyOf_int_mk aD<|xp hk;obtain⟨v,ps,a,e⟩:=i.look_ok vV aM (Eu _) (plainElem_int aD<|show(ao F 0).wf=I by decide) c;obtain⟨x,rfl,l,f⟩:=plainElem_int_inv aD e;simp only[Prod.mk.injEq]at l;obtain⟨d,p⟩:=j k hk;rw[a,d];unfold valOf;cases g:hs k with|true=>grind|false=>rw[g]at d;have:=atKey_of_not_has d<|.lit<|ao F 0;grind
def PE(B E O:Nat)(a b c d:S)(n:Nat)(m:jc)(w:U)(h:jy w B E O a b c d n m)(ng:Nat)(g:Nat->Int)(X:iQ w c 2 ng g)(j lo hi:Nat)(hj:j<ng)(aa:g (2*j)=lo)(ad:g (2*j+1)=hi)(ac:lo<=hi)(ae:hi<=99):aq o 204 #[ai<|J ⟨E,0,L⟩,H F j] w λe w'=>e=ar (ak #[H F<|lQ m.hs m.vl lo<|hi+1-lo,H F (mY m.hs lo<|hi+1-lo:Nat)])/\jy w' B E O a b c d n m/\y w.heap.size w w':=by
 obtain⟨ga,C,rfl,ah,K⟩:=id X;obtain⟨P,go,rfl,ao,l⟩:=K (by omega);have e0:w.cell? ⟨P,go+j*2,L⟩=J (H F lo):=by grind
 have e1:w.cell? ⟨P,go+j*2+1,L⟩=J (H F hi):=by grind
 obtain⟨vC,N,-⟩:=h.ex;have c8:w.cell? ⟨E,8,L⟩=J (V (J ⟨P,go,L⟩) ng C):=N.cell (j:=8) (by omega);have an:(j:Int)<(ng:Int):=by omega
 have am:(0:Int)<=(j:Int):=by omega
 have x:y w.heap.size w<|w.alloc<|Y #[H F lo,H F hi] 159:=(u _ _).alloc (aj _) _;have t:=h.jr x;clear l K X N;go_enter Tryz.func204,Tryz.ntmps204;go_wp2_with fail;have r1:(w.alloc<|Y #[H F lo,H F hi] 159).cell? ⟨w.heap.size,1,L⟩=J (H F hi):=by simp
 have cm:(w.alloc<|Y #[H F lo,H F hi] 159).cell? ⟨E,10,L⟩=J (ax<|J O):=by obtain⟨vC,N,-⟩:=t.ex;exact N.cell (j:=10) (by omega)
 have G:=t.ml;clear e0 e1 c8;generalize(w.alloc<|Y #[H F lo,H F hi] 159)=w1 at*;go_loopw[4,5,7](λs q i wr=>∃k:Nat,lo<=k/\k<=hi+1/\i=H F k/\s=H F (lQ m.hs m.vl lo<|k-lo)/\q=H F (mY m.hs lo<|k-lo:Nat)/\w1=wr)(λ_ _ i _=>hi+1-(intOf i).toNat);case atStart=>exact⟨lo,aj _,by omega,rfl,by simp[lQ],by simp[mY,jN],rfl⟩
 case round=>obtain⟨k,r,hk,rfl,rfl,rfl,rfl⟩:=hrel;(have f:Hid<|k+1-lo=(k-lo)+1:=by show _=_;omega);(have D:Hid<|lo+(k-lo)=k:=by show _=_;omega);by_cases al:k<=hi;(.have r:=Ta G (k:=k) (by omega);(have M:(k:Int)<=(hi:Int):=by omega);have W:=qN (λj=>m.hs<|lo+j)<|k-lo;cases A:m.hs k with|false=>have R:Hid<|_=_:=DY (hs:=m.hs) (vl:=m.vl) (lo:=lo) (k:=k-lo) (by grind);have T:Hid<|_=_:=vt (p:=λj=>m.hs<|lo+j) (k:=k-lo) (by grind);rw[A]at r;clear A;go_wp2;go_roundw;(case rel=>exact⟨k+1,by omega,by omega,by go_num,by rw[f.out,R.out],by rw[f.out];unfold mY;rw[T.out],trivial⟩);case measure=>simp[intOf];omega|true=>have R:Hid<|_=_:=En (hs:=m.hs) (vl:=m.vl) (lo:=lo) (k:=k-lo) (by grind);have T:Hid<|_=_:=tU (p:=λj=>m.hs<|lo+j) (k:=k-lo) (by grind);rw[A,show valOf m.hs m.vl k=m.vl k by simp[valOf,A]]at r;clear A;go_wp2;go_roundw;(case rel=>exact⟨k+1,by omega,by omega,by go_num,by rw[f.out,R.out,D.out],by rw[f.out];unfold mY at*;rw[T.out,Go.IntWalk.wrap64_in _<|by omega];simp,trivial⟩);case measure=>simp[intOf];omega);. (have z:k=hi+1:=by omega);(have M:¬(k:Int)<=(hi:Int):=by omega);have HK:Hid<|k=hi+1:=z;clear z;go_wp2;exact bodyPost_ret (v:=ak #[H F<|lQ m.hs m.vl lo<|k-lo,H F (mY m.hs lo<|k-lo:Nat)]) (by simp[results,Tryz.results204,go_sem]) rfl ⟨by rw[HK.out],t,x⟩
def abM(B j p:Nat)(a b c d:S)(n:Nat)(m:jc)(w:U)(h:jy w B j p a b c d n m)(k C:Int)(A X lo hi ng:Nat)(g:Nat->Int)(D:iQ w c 2 ng g)(G:A<4)(N:X<ng)(q:g (2*X)=lo)(v:g (2*X+1)=hi)(s:lo<=hi)(x:hi<=99):aq o 203 #[ai<|J ⟨j,0,L⟩,an #[H F k,H F A,H F X,H F C]] w λe E=>e=ar (ak #[])/\jy E B j p a b c d n {m with r:=upd m.r A<|lQ m.hs m.vl lo<|hi+1-lo}/\y B w E:=by
 have l:y B w<|w.alloc<|Y #[H F k,H F A,H F X,H F C] 161:=(u _ _).alloc h.qP _;have f:=h.jr<|(u _ _).alloc (aj _)<|Y #[H F k,H F A,H F X,H F C] 161;have t:=D.alloc<|Y #[H F k,H F A,H F X,H F C] 161;obtain⟨i0,i1,i2,i3⟩:=wI w k A X C;have T:(A:Int)<4:=by omega
 have O:(0:Int)<=(A:Int):=by omega
 have W:w.heap.size<(w.alloc<|Y #[H F k,H F A,H F X,H F C] 161).heap.size:=by simp
 go_enter Tryz.func203,Tryz.ntmps203;go_wp2_with fail;clear h D;generalize(w.alloc<|Y #[H F k,H F A,H F X,H F C] 161)=w1 at*;obtain⟨vC,R,-⟩:=f.ex;have f1:=R.frozen;go_region_with(go_at_call 204;refine(PE B j p a b c d n m w1.drew f.drew ng g (t.below (u _ _).drew) X lo hi N q v s x).mono ?_;rintro e P⟨rfl,z,K⟩;have j1:P.cell? ⟨w.heap.size,1,L⟩=J (H F A):=(by rw[K.cell W];exact i1);obtain⟨M,i,-⟩:=z.ex;have c2:=sh i G;have f2:=i.frozen);all_goals(go_end0;exact⟨rfl,z.zV G _,((l.drew).trans<|K.mono f.drew.qP).setCell f.ge.1 _⟩)
def WK(B j p:Nat)(a b c d:S)(n:Nat)(m:jc)(w:U)(h:jy w B j p a b c d n m)(k C:Int)(A X lo hi ng:Nat)(g:Nat->Int)(D:iQ w c 2 ng g)(G:A<4)(N:X<ng)(q:g (2*X)=lo)(v:g (2*X+1)=hi)(s:lo<=hi)(x:hi<=99):aq o 205 #[ai<|J ⟨j,0,L⟩,an #[H F k,H F A,H F X,H F C]] w λe E=>e=ar (ak #[])/\jy E B j p a b c d n {m with r:=upd m.r A (mY m.hs lo<|hi+1-lo:Nat)}/\y B w E:=by
 have l:y B w<|w.alloc<|Y #[H F k,H F A,H F X,H F C] 161:=(u _ _).alloc h.qP _;have f:=h.jr<|(u _ _).alloc (aj _)<|Y #[H F k,H F A,H F X,H F C] 161;have t:=D.alloc<|Y #[H F k,H F A,H F X,H F C] 161;obtain⟨i0,i1,i2,i3⟩:=wI w k A X C;have T:(A:Int)<4:=by omega
 have O:(0:Int)<=(A:Int):=by omega
 have W:w.heap.size<(w.alloc<|Y #[H F k,H F A,H F X,H F C] 161).heap.size:=by simp
 go_enter Tryz.func205,Tryz.ntmps205;go_wp2_with fail;clear h D;generalize(w.alloc<|Y #[H F k,H F A,H F X,H F C] 161)=w1 at*;obtain⟨vC,R,-⟩:=f.ex;have f1:=R.frozen;go_region_with(go_at_call 204;refine(PE B j p a b c d n m w1.drew f.drew ng g (t.below (u _ _).drew) X lo hi N q v s x).mono ?_;rintro e P⟨rfl,z,K⟩;have j1:P.cell? ⟨w.heap.size,1,L⟩=J (H F A):=(by rw[K.cell W];exact i1);obtain⟨M,i,-⟩:=z.ex;have c2:=sh i G;have f2:=i.frozen);all_goals(go_end0;exact⟨rfl,z.zV G _,((l.drew).trans<|K.mono f.drew.qP).setCell f.ge.1 _⟩)
def qI(t:iP)(X:Int):Nat:=(t.g<|2*X.toNat).toNat
def tj(t:iP)(X:Int):Nat:=(t.g<|2*X.toNat+1).toNat
def qO(t:iP)(K A X C:Int)(m:jc):jc:=if K=1 then{m with r:=upd m.r A.toNat X}else if K=2 then{m with r:=upd m.r A.toNat<|valOf m.hs m.vl X.toNat}else if K=3 then{m with hs:=upd m.hs A.toNat I,vl:=upd m.vl A.toNat<|m.r X.toNat,ch:=m.ch++[⟨A.toNat,m.r X.toNat,Z⟩]}else if K=4 then{m with hs:=upd m.hs A.toNat Z,ch:=m.ch++[⟨A.toNat,0,I⟩]}else if K=5 then{m with r:=upd m.r A.toNat<|lQ m.hs m.vl (qI t X)<|tj t X+1-qI t X}else if K=6 then{m with r:=upd m.r A.toNat (mY m.hs (qI t X)<|tj t X+1-qI t X:Nat)}else if K=7 then{m with r:=upd m.r A.toNat<|wrap64<|m.r X.toNat+m.r C.toNat}else if K=8 then{m with r:=upd m.r A.toNat<|wrap64<|m.r X.toNat-m.r C.toNat}else if K=9 then{m with nx:=if m.r A.toNat<m.r X.toNat then C.toNat else m.nx}else{m with ab:=I,ch:=[],nx:=t.nc}
def lV(t:iP)(m:jc):jc:=qO t (t.c<|4*m.nx) (t.c<|4*m.nx+1) (t.c<|4*m.nx+2) (t.c<|4*m.nx+3) {m with nx:=m.nx+1}
def runM(t:iP):Nat->jc->jc|0,m=>m|f+1,m=>if m.nx<t.nc then runM t f (lV t m)else m
def zp(K:Int):FuncId:=if K=1 then 197 else if K=2 then 198 else if K=3 then 199 else if K=4 then 201 else if K=5 then 203 else if K=6 then 205 else if K=7 then 206 else if K=8 then 207 else if K=9 then 208 else 209
def lA{n lo hi:Int}(h:iX n lo hi=I)(a:0<=lo):∃k:Nat,n=k/\lo<=k/\(k:Int)<=hi:=by simp only[iX,Q,decide_eq_true_eq]at h;exact⟨n.toNat,by omega,by omega,by omega⟩
def vK{n:Nat}{f:Nat->Int}(h:hasB n f m=I)(hk:nC n f=I):∃k:Nat,m=k/\k<100:=by obtain⟨i,hi,a⟩:=tv h;simp only[nC,Q]at hk;have:=nO hk.2 hi;rw[beq_iff_eq]at a;rw[a]at this;obtain⟨k,rfl,_,b⟩:=lA this<|ah 0;grind
structure pk(t:iP):Prop where
 ok:ld t=true
 wf:∀j,j<t.nc*4->(ao F<|t.c j).wf=true
def pk.keys{t:iP}(h:pk t):nC t.nr t.r=I/\nC t.nw t.wr=I/\rm t.ng t.g=I/\t.nc<=16/\jO (qG t) t.nc=I:=by have:=h.ok;simp only[ld,wi,Q,decide_eq_true_eq]at this;grind
def pk.range{t:iP}(h:pk t){j:Nat}(b:j<t.ng):∃lo hi:Nat,t.g (2*j)=lo/\t.g (2*j+1)=hi/\lo<=hi/\hi<=99:=by have:=h.keys.2.2.1;simp only[rm,Q]at this;have:=nO this.2 b;simp only[oS,Q,decide_eq_true_eq]at this;obtain⟨⟨a,c⟩,f⟩:=this;obtain⟨lo,e1,d,e⟩:=lA a<|ah 0;obtain⟨hi,e2,b1,b2⟩:=lA c<|ah 0;grind
def Ly(m:jc):Prop:=∀i,i<4->(ao F<|m.r i).wf=I
def aaG(t:iP)(T:pk t)(B l q:Nat)(a b c d:S)(n:Nat)(m:jc)(w:U)(h:jy w B l q a b c d n m)(E:lE w a b c d t)(hR:Ly m)(W:n<=100000)(M:m.ch.length<=1000)(at':Nat)(G:at'<t.nc):aq o (zp<|t.c<|4*at') #[ai<|J ⟨l,0,L⟩,an #[H F<|t.c<|4*at',H F<|t.c<|4*at'+1,H F<|t.c<|4*at'+2,H F<|t.c<|4*at'+3]] w λe p=>e=ar (ak #[])/\jy p B l q a b c d (n+1) (qO t (t.c<|4*at') (t.c<|4*at'+1) (t.c<|4*at'+2) (t.c<|4*at'+3) m)/\y B w p:=by
 obtain⟨k1,k2,k3,k4,k5⟩:=T.keys;have i:=nO k5 G;unfold qG at i;have aa:=T.wf (4*at'+2) (by omega);generalize t.c (4*at')=K at*;generalize t.c (4*at'+1)=A at*;generalize t.c (4*at'+2)=X at*;generalize t.c (4*at'+3)=C at*;unfold mS at i;have up:∀{p:U}{P:jc},jy p B l q a b c d n P->jy p B l q a b c d (n+1) P:=λh=>⟨h.ge,h.ex,h.ml.step⟩;by_cases e1:K=1;.subst e1;rw[if_pos rfl]at i;obtain⟨A,rfl,_,r⟩:=lA i<|ah 0;refine(Qm B l q a b c d n m w h 1 X C A<|by omega).mono λe p f=>⟨f.1,up ?_,f.2.2⟩;simpa[qO]using f.2.1
 by_cases e2:K=2;.subst e2;rw[if_neg<|by omega,if_pos rfl,Q,aH]at i;obtain⟨A,rfl,_,r⟩:=lA i.1<|ah 0;obtain⟨X,rfl,s⟩:∃k:Nat,X=k/\k<100:=i.2.elim (λh=>vK h k1) λh=>vK h k2;refine(V0 B l q a b c d n m w h 2 C A X (by omega) s).mono λe p f=>⟨f.1,up ?_,f.2.2⟩;simpa[qO]using f.2.1
 by_cases e3:K=3;.subst e3;rw[if_neg<|by omega,if_neg<|by omega,if_pos rfl,Q]at i;obtain⟨A,rfl,r⟩:=vK i.1 k2;obtain⟨X,rfl,_,s⟩:=lA i.2<|ah 0;refine(X5 B l q a b c d n m w h 3 C A X r (by omega) (hR X<|by omega) W M).mono λe p f=>⟨f.1,?_,f.2.2⟩;simpa[qO]using f.2.1
 by_cases R:K=4;.subst R;rw[if_neg<|by omega,if_neg<|by omega,if_neg<|by omega,if_pos rfl]at i;obtain⟨A,rfl,r⟩:=vK i k2;refine(Sy B l q a b c d n m w h 4 X C A r M).mono λe p f=>⟨f.1,up ?_,f.2.2⟩;simpa[qO]using f.2.1
 by_cases e5:K=5;.subst e5;rw[if_neg<|by omega,if_neg<|by omega,if_neg<|by omega,if_neg<|by omega,if_pos<|ay rfl,Q]at i;obtain⟨A,rfl,_,r⟩:=lA i.1<|ah 0;obtain⟨X,rfl,_,s⟩:=lA i.2<|ah 0;obtain⟨lo,hi,v,x,z,D⟩:=T.range (j:=X) (by omega);refine(abM B l q a b c d n m w h 5 C A X lo hi t.ng t.g E.g (by omega) (by omega) v x z D).mono λe p f=>⟨f.1,up ?_,f.2.2⟩;simpa[qO,qI,tj,v,x]using f.2.1
 by_cases e6:K=6;.subst e6;rw[if_neg<|by omega,if_neg<|by omega,if_neg<|by omega,if_neg<|by omega,if_pos<|au rfl,Q]at i;obtain⟨A,rfl,_,r⟩:=lA i.1<|ah 0;obtain⟨X,rfl,_,s⟩:=lA i.2<|ah 0;obtain⟨lo,hi,v,x,z,D⟩:=T.range (j:=X) (by omega);refine(WK B l q a b c d n m w h 6 C A X lo hi t.ng t.g E.g (by omega) (by omega) v x z D).mono λe p f=>⟨f.1,up ?_,f.2.2⟩;simpa[qO,qI,tj,v,x]using f.2.1
 by_cases e7:K=7;.subst e7;rw[if_neg<|by omega,if_neg<|by omega,if_neg<|by omega,if_neg<|by omega,if_neg<|by omega,if_pos<|ay rfl,Q,Q]at i;obtain⟨A,rfl,_,r⟩:=lA i.1.1<|ah 0;obtain⟨X,rfl,_,s⟩:=lA i.1.2<|ah 0;obtain⟨C,rfl,_,N⟩:=lA i.2<|ah 0;refine(agu B l q a b c d n m w h 7 A X C (by omega) (by omega)<|by omega).mono λe p f=>⟨f.1,up ?_,f.2.2⟩;simpa[qO]using f.2.1
 by_cases e8:K=8;.subst e8;rw[if_neg<|by omega,if_neg<|by omega,if_neg<|by omega,if_neg<|by omega,if_neg<|by omega,if_pos<|au rfl,Q,Q]at i;obtain⟨A,rfl,_,r⟩:=lA i.1.1<|ah 0;obtain⟨X,rfl,_,s⟩:=lA i.1.2<|ah 0;obtain⟨C,rfl,_,N⟩:=lA i.2<|ah 0;refine(XU B l q a b c d n m w h 8 A X C (by omega) (by omega)<|by omega).mono λe p f=>⟨f.1,up ?_,f.2.2⟩;simpa[qO]using f.2.1
 by_cases O:K=9;.subst O;rw[if_neg<|by omega,if_neg<|by omega,if_neg<|by omega,if_neg<|by omega,if_neg<|by omega,if_neg<|by omega,if_pos rfl,Q,Q]at i;obtain⟨A,rfl,_,r⟩:=lA i.1.1<|ah 0;obtain⟨X,rfl,_,s⟩:=lA i.1.2<|ah 0;obtain⟨C,rfl,_,N⟩:=lA i.2 (by omega);refine(adr B l q a b c d n m w h 9 A X C (by omega)<|by omega).mono λe p f=>⟨f.1,up ?_,f.2.2⟩;simpa[qO]using f.2.1
 .rw[if_neg e1,if_neg e2,if_neg e3,if_neg R,if_neg<|by omega,if_neg<|by omega,if_neg O,beq_iff_eq]at i;subst i;obtain⟨da,dc,rfl,-⟩:=E.c;refine(acQ B l q a b c da t.nc dc n m w h 10 A X C).mono λe p f=>⟨f.1,up ?_,f.2.2⟩;simpa[qO]using f.2.1
end
section
open Go.RowKit
def xY(l:List<|Nat×Int):(Nat->Bool)×(Nat->Int):=l.foldl (λs p=>(upd s.1 p.1 I,upd s.2 p.1 p.2)) (λ_=>Z,λ_=>0)
def sR(l:List<|Nat×Int):jc:=⟨Z,λ_=>0,[],(xY l).1,(xY l).2,0⟩
def lu(t:iP)(l:List<|Nat×Int):jc:=runM t t.nc<|sR l
def Vw{l:List<|Nat×Int}{k:Nat}{p:Nat×Int}(h:l[k]?=J p):sR (l.take<|k+1)={sR (l.take k)with hs:=upd (sR<|l.take k).hs p.1 I,vl:=upd (sR<|l.take k).vl p.1 p.2}:=by
 have:xY (l.take<|k+1)=(upd (xY<|l.take k).1 p.1 I,upd (xY<|l.take k).2 p.1 p.2):=by rw[List.take_add_one,h];simp[xY,aV]
 simp[sR,this]
abbrev ji(x:Int):Prop:=(ao F x).wf=I
structure py(t:iP)(m:jc):Prop where
 NX:Ly m
 Zs:∀k,m.hs k=true->ji (m.vl k)
 nx:m.nx<=t.nc
 len:m.ch.length<=m.nx
 keys:∀c∈m.ch,c.key<100/\ji c.val/\(c.del=true->c.val=0)
def Rh{r:Nat->Int}(h:∀i,i<4->ji (r i))(A:Nat)(a:ji m):∀i,i<4->ji (upd r A m i):=by intro i hi;unfold upd;grind
def Dz{n:Nat}(h:n<=1000):ji (n:Int):=WalkArith.wf_i64<|by omega
def Q3{hs:Nat->Bool}{vl:Nat->Int}(h:∀k,hs k=I->ji (vl k))(k:Nat):ji<|valOf hs vl k:=by
 unfold valOf;split;.grind
 .exact Dz (n:=0)<|by omega
def Oe(t:iP){l:List<|Nat×Int}(h:∀p∈l,ji p.2):py t<|sR l:=by
 refine⟨λi _=>Dz (n:=0)<|by omega,?_,aN _,aN _,by simp[sR]⟩;have:∀(l:List<|Nat×Int)(s:(Nat->Bool)×(Nat->Int)),(∀k,s.1 k=I->ji (s.2 k))->(∀p∈l,ji p.2)->∀k,(l.foldl (λs p=>(upd s.1 p.1 I,upd s.2 p.1 p.2)) s).1 k=I->ji ((l.foldl (λs p=>(upd s.1 p.1 I,upd s.2 p.1 p.2)) s).2 k):=by intro l;induction l with|nil=>simp|cons p l c=>intro s hs a;refine c _ ?_ λq b=>a q (by simp[b]);intro k hk;simp only[upd]at hk⊢;grind
 exact this l _ (λk hk=>by cases hk) h
def py.step{t:iP}(T:pk t){m:jc}(h:py t m)(d:m.nx<t.nc):py t (lV t m)/\m.nx<(lV t m).nx:=by
 obtain⟨k1,k2,k3,k4,k5⟩:=T.keys;have a:=nO k5 d;unfold qG at a;have E:=T.wf (4*m.nx+2) (by omega);unfold lV;generalize t.c (4*m.nx)=K at*;generalize t.c (4*m.nx+1)=A at*;generalize t.c (4*m.nx+2)=X at*;generalize t.c (4*m.nx+3)=C at*;unfold mS at a;unfold qO;obtain⟨g,f,P,O,D⟩:=h;have b:∀(A:Nat){x:Int},ji x->py t {m with nx:=m.nx+1,r:=upd m.r A x}/\m.nx<m.nx+1:=λA x q=>⟨⟨Rh g A q,f,d,by grind,D⟩,bh _⟩;have i:∀(hs:Nat->Bool)(vl:Nat->Int)(c:nm),(∀k,hs k=I->ji (vl k))->c.key<100/\ji c.val/\(c.del=I->c.val=0)->py t {m with nx:=m.nx+1,hs:=hs,vl:=vl,ch:=m.ch++[c]}/\m.nx<m.nx+1:=λhs vl c l p=>⟨⟨g,l,d,by grind,λx q=>by grind⟩,bh _⟩;by_cases e1:K=1;.grind
 rw[if_neg e1];rw[if_neg e1]at a;by_cases e2:K=2;.rw[if_pos e2];exact b _<|Q3 f _
 rw[if_neg e2];rw[if_neg e2]at a;by_cases e3:K=3;.rw[if_pos e3];rw[if_pos e3,Q]at a;obtain⟨A,rfl,w⟩:=vK a.1 k2;obtain⟨X,rfl,_,N⟩:=lA a.2<|ah 0;have q:=g X (by omega);refine i _ _ ⟨A,m.r X,Z⟩ (λk hk=>?_) ⟨w,q,λe=>by cases e⟩;simp only[aI]at hk⊢;unfold upd at hk⊢;grind
 rw[if_neg e3];rw[if_neg e3]at a;by_cases s:K=4;.rw[if_pos s];rw[if_pos s]at a;obtain⟨A,rfl,w⟩:=vK a k2;refine i _ m.vl ⟨A,0,I⟩ (λk hk=>f k ?_) ⟨w,Dz (n:=0)<|by omega,λ_=>rfl⟩;unfold upd at hk;grind
 rw[if_neg s];rw[if_neg s]at a;by_cases e5:K=5;.rw[if_pos e5];exact b _<|MZ _ _ _ _
 rw[if_neg e5];by_cases e6:K=6;.rw[if_pos e6];rw[if_pos<|au e6,Q]at a;obtain⟨X,rfl,_,N⟩:=lA a.2<|ah 0;obtain⟨lo,hi,l,p,R,W⟩:=T.range (j:=X) (by omega);refine b _<|Dz ?_;refine aP (qN _ _) ?_;simp[qI,tj,l,p];omega
 rw[if_neg e6];rw[if_neg<|by omega]at a;by_cases z:K=7;.rw[if_pos z];exact b _<|wrap64_wf _
 rw[if_neg z];by_cases B:K=8;.rw[if_pos B];exact b _<|wrap64_wf _
 rw[if_neg B];rw[if_neg<|by omega]at a;by_cases v:K=9;.rw[if_pos v];rw[if_pos v,Q,Q]at a;obtain⟨C,rfl,G,M⟩:=lA a.2 (by omega);have:∀x,m.nx+1<=x->x<=t.nc->py t {m with nx:=x}/\m.nx<x:=λx l p=>⟨⟨g,f,p,by grind,D⟩,l⟩;grind
 rw[if_neg v];exact⟨⟨g,f,aj _,aN _,by simp⟩,d⟩
def Hy{t:iP}(T:pk t):∀(f:Nat)(m:jc),py t m->t.nc-m.nx<=f->runM t f m=runM t (t.nc-m.nx) m|0,m,_,h=>by grind|f+1,m,c,h=>by by_cases a:m.nx<t.nc;(.obtain⟨b,i⟩:=c.step T a;have e:∃g,t.nc-m.nx=g+1:=⟨t.nc-m.nx-1,by omega⟩;obtain⟨g,d⟩:=e;rw[d];unfold runM;rw[if_pos a,if_pos a,Hy T f _ b<|by omega,<-Hy T g _ b<|by omega]);.rw[show t.nc-m.nx=0 by omega];unfold runM;rw[if_neg a]
def yf(t:iP)(m:jc):jc:=runM t (t.nc-m.nx) m
def aad{t:iP}(T:pk t){m:jc}(h:py t m)(a:m.nx<t.nc):yf t m=yf t (lV t m):=by
 obtain⟨b,d⟩:=h.step T a;unfold yf;obtain⟨g,c⟩:∃g,t.nc-m.nx=g+1:=⟨t.nc-m.nx-1,by omega⟩;rw[c];conv=>lhs;unfold runM
 rw[if_pos a,Hy T g _ b<|by omega]
def Wa{t:iP}{m:jc}(h:¬m.nx<t.nc):yf t m=m:=by unfold yf;rw[show t.nc-m.nx=0 by omega];rfl
def Rx(t:iP)(l:List<|Nat×Int):yf t (sR l)=lu t l:=rfl
end
section
structure Good(D:iT):Prop where
 nb:D.nb<=3
 nl:D.nl<=24
 Me:jO (lZ 1 D.fb) D.nb=true
 iz:jO (λi=>ld<|D.ts i) D.nl=true
def within_iff{n lo hi:Int}:iX n lo hi=I↔lo<=n/\n<=hi:=by simp[iX]
def MI{lo:Int}{f:Nat->Int}{n j:Nat}(h:jO (lZ lo f) n=I)(a:j+1<n):f j<f (j+1):=by have:=nO h a;simp only[lZ,within_iff]at this;omega
def MN{lo:Int}{f:Nat->Int}{n:Nat}(h:jO (lZ lo f) n=I):∀d i,i+d+1<n->f i<f (i+d+1)|0,i,hi=>MI h hi|d+1,i,hi=>by have a:=MN h d i (by omega);have b:=MI (j:=i+d+1) h (by omega);grind
def Sj{lo:Int}{f:Nat->Int}{n:Nat}(h:jO (lZ lo f) n=I)(a:w<v)(b:v<n):f w<f v:=by have:=MN h (v-w-1) w (by omega);grind
def NL{f:Nat->Int}{n:Nat}(x:Int)(inc:∀i j,i<j->j<n->f i<f j):∀m,m<=n->∀i,i<m->(f i<=x↔i<jN (λi=>decide<|f i<=x) m)|0,_,i,hi=>by omega|m+1,d,i,hi=>by have b:=NL x inc m (by omega);have c:=qN (λi=>decide<|f i<=x) m;by_cases a:f m<=x;(. (have all:jN (λi=>decide<|f i<=x) m=m:=by cases m with|zero=>rfl|succ k=>have e:=(b k<|by omega).1 (by have:=inc k (k+1) (by omega) (by omega);omega);omega);rw[tU<|by simpa using a,all];grind);.rw[vt<|by simpa using a];grind
def OO{p q:Nat->Bool}(h:∀i,p i=I->q i=I):∀n,jN p n<=jN q n|0=>aj _|n+1=>by have:=OO h n;simp only[jN];grind
def M8(nb:Nat)(fb:Nat->Int)(h:m<=n):j8 nb fb m<=j8 nb fb n:=OO (λi hi=>by grind) nb
def AG(nb:Nat)(fb:Nat->Int)(x:Int):j8 nb fb x<=nb:=qN _ _
def Good.inc{D:iT}(G:Good D):∀i j,i<j->j<D.nb->D.fb i<D.fb j:=λ_ _ h a=>Sj G.Me h a
def Good.bound{D:iT}(G:Good D)(i:Nat)(h:i<D.nb):1<=D.fb i/\D.fb i<=99:=by
 have:∀k,k<=D.nb->∀j,j<k->1<=D.fb j/\D.fb j<=99:=by intro k;induction k with|zero=>omega|succ k a=>intro hk j b;by_cases e:j=k;(.subst e;have:=nO G.Me (k:=j) (by omega);cases j with|zero=>simp only[lZ,within_iff]at this;exact this|succ i=>simp only[lZ,within_iff]at this;grind);grind
 grind
def Good.key{D:iT}(G:Good D)(hi:w<D.nl):nC (D.ts w).nr (D.ts w).r=I/\nC (D.ts w).nw (D.ts w).wr=I/\rm (D.ts w).ng (D.ts w).g=I:=by have:=nO G.iz hi;simp only[ld,Q]at this;grind
def Good.Ps{D:iT}(G:Good D)(hi:w<D.nl)(a:v<(D.ts w).nr):0<=(D.ts w).r v/\(D.ts w).r v<=99:=by have:=(G.key hi).1;simp only[nC,Q]at this;exact within_iff.1<|nO this.2 a
def Good.Nt{D:iT}(G:Good D)(hi:w<D.nl)(a:v<(D.ts w).nw):0<=(D.ts w).wr v/\(D.ts w).wr v<=99:=by have:=(G.key hi).2.1;simp only[nC,Q]at this;exact within_iff.1<|nO this.2 a
def Good.O8{D:iT}(G:Good D)(hi:w<D.nl)(a:v<(D.ts w).ng):0<=(D.ts w).g (2*v)/\(D.ts w).g (2*v)<=(D.ts w).g (2*v+1)/\(D.ts w).g (2*v+1)<=99:=by have:=(G.key hi).2.2;simp only[rm,Q]at this;have:=nO this.2 a;simp only[oS,Q,within_iff,decide_eq_true_eq]at this;omega
def Good.reach{D:iT}(G:Good D)(hi:w<D.nl)(t:v<(D.ts w).ng)(h:uq D.nb D.fb x ((D.ts w).g<|2*v) ((D.ts w).g<|2*v+1)=I):∃k:Nat,k<100/\uk (D.ts w) k v=I/\j8 D.nb D.fb k=x:=by
 obtain⟨A,B,z⟩:=G.O8 hi t;simp only[uq,Q,decide_eq_true_eq]at h;have pre:=λr=>NL r G.inc D.nb<|aj _;by_cases e:j8 D.nb D.fb ((D.ts w).g<|2*v)=x;.refine⟨((D.ts w).g<|2*v).toNat,by omega,?_,?_⟩;(.simp only[uk,Q,decide_eq_true_eq];omega);grind
 .have s:=AG D.nb D.fb<|(D.ts w).g<|2*v+1;(have c:x-1<D.nb:=by omega);have b:=G.bound (x-1) c;(have lo:¬D.fb (x-1)<=(D.ts w).g (2*v):=λn=>by have l:=(pre ((D.ts w).g<|2*v) (x-1) c).1 n;(have f:j8 D.nb D.fb ((D.ts w).g<|2*v)<=x:=by omega);simp only[j8]at e f;omega);have m:=(pre ((D.ts w).g<|2*v+1) (x-1) c).2 (by(have:x<=j8 D.nb D.fb ((D.ts w).g<|2*v+1):=by omega);simp only[j8]at this;omega);refine⟨(D.fb<|x-1).toNat,by omega,?_,?_⟩;(.simp only[uk,Q,decide_eq_true_eq];omega);.rw[show((D.fb<|x-1).toNat)=D.fb (x-1)from by omega];have C:=(pre (D.fb<|x-1) (x-1) c).1 (by omega);(have q:j8 D.nb D.fb (D.fb<|x-1)<=x:=by rcases bj x D.nb with a|a;(. (have l:¬D.fb x<=D.fb (x-1):=by have:=G.inc (x-1) x (by omega) a;omega);have f:=(pre (D.fb<|x-1) x a).2;rcases bj x (j8 D.nb D.fb<|D.fb<|x-1)with d|d;(.exact absurd (f d) l);.exact d);.have:=AG D.nb D.fb<|D.fb<|x-1;omega);simp only[j8]at q⊢;omega
def Good.M9{D:iT}(G:Good D)(hi:w<D.nl)(d:¬(D.ts w).nr+(D.ts w).nw+(D.ts w).ng=0):∃k:Nat,k<100/\ks (D.ts w) k=I:=by
 by_cases a:0<(D.ts w).nr;.have:=G.Ps hi a;refine⟨((D.ts w).r 0).toNat,by omega,?_⟩;rw[show(((D.ts w).r 0).toNat)=(D.ts w).r 0 from by omega,ks,hasB,nW a<|by simp];rfl
 .by_cases c:0<(D.ts w).nw;(.have:=G.Nt hi c;refine⟨((D.ts w).wr 0).toNat,by omega,?_⟩;rw[show(((D.ts w).wr 0).toNat)=(D.ts w).wr 0 from by omega,ks];rw[show hasB (D.ts w).nw (D.ts w).wr ((D.ts w).wr 0)=I from nW c (by simp)];simp);. (have b:0<(D.ts w).ng:=by omega);have:=G.O8 hi b;refine⟨((D.ts w).g<|2*0).toNat,by omega,?_⟩;rw[show(((D.ts w).g<|2*0).toNat)=(D.ts w).g (2*0)from by omega,ks];rw[show kq (uk (D.ts w)<|(D.ts w).g<|2*0) (D.ts w).ng=I from nW b (by simp only[uk,Q,decide_eq_true_eq];omega)];simp
def LY{t:iP}(d:t.nr+t.nw+t.ng=0)(x:Int):ks t x=Z:=by
 have c:t.nr=0:=by omega
 have a:t.nw=0:=by omega
 have b:t.ng=0:=by omega
 simp[ks,hasB,c,a,b,kq]
def Good.XJ{D:iT}(G:Good D)(hi:w<D.nl)(p:Nat):FD D w p=jE D w p:=by
 by_cases d:(D.ts w).nr+(D.ts w).nw+(D.ts w).ng=0;. (have e1:kq (λk=>ks (D.ts w) k&&((j8 D.nb D.fb k)==(p:Int))) 100=Z:=by cases e:kq (λk=>ks (D.ts w) k&&((j8 D.nb D.fb k:Int)==(p))) 100 with|false=>rfl|true=>obtain⟨k,_,hk⟩:=tv e;simp[LY d]at hk);(have e2:kq (λk=>ks (D.ts w) k) 100=Z:=by cases e:kq (λk=>ks (D.ts w) k) 100 with|false=>rfl|true=>obtain⟨k,_,hk⟩:=tv e;simp[LY d]at hk);rw[FD,e1,e2,jE,if_pos d];rfl
 .obtain⟨s,m,l⟩:=G.M9 hi d;have e2:kq (λk=>ks (D.ts w) k) 100=I:=nW m l;rw[FD,e2,jE,if_neg d];simp only[Bool.not_true,Bool.false_and,Bool.or_false];rw[Bool.eq_iff_iff];constructor;(.intro h;obtain⟨k,hk,f⟩:=tv h;simp only[Q,beq_iff_eq]at f;obtain⟨c,q⟩:=f;simp only[ks,aH]at c;rcases c with(c|c)|c;(.obtain⟨j,b,a⟩:=tv c;rw[beq_iff_eq]at a;rw[show wJ D p (D.ts w).nr (D.ts w).r=I from nW b (by grind)];rfl);(.obtain⟨j,b,a⟩:=tv c;simp only[uk,Q,decide_eq_true_eq]at a;have v:=M8 D.nb D.fb a.1;have t:=M8 D.nb D.fb a.2;rw[show FP D p (D.ts w).ng (D.ts w).g=I from nW b (by simp only[uq,Q,decide_eq_true_eq];omega)];simp);.obtain⟨j,b,a⟩:=tv c;rw[beq_iff_eq]at a;rw[show wJ D p (D.ts w).nw (D.ts w).wr=I from nW b (by grind)];simp);.intro h;simp only[aH]at h;rcases h with(h|h)|h;(.obtain⟨j,b,a⟩:=tv h;have:=G.Ps hi b;refine nW (k:=((D.ts w).r j).toNat) (by omega) ?_;rw[show(((D.ts w).r j).toNat)=(D.ts w).r j from by omega,a,ks];rw[show hasB (D.ts w).nr (D.ts w).r ((D.ts w).r j)=I from nW b (by simp)];rfl);(.obtain⟨j,b,a⟩:=tv h;have:=G.Nt hi b;refine nW (k:=((D.ts w).wr j).toNat) (by omega) ?_;rw[show(((D.ts w).wr j).toNat)=(D.ts w).wr j from by omega,a,ks];rw[show hasB (D.ts w).nw (D.ts w).wr ((D.ts w).wr j)=I from nW b (by simp)];simp);.obtain⟨j,b,a⟩:=tv h;obtain⟨k,hk,n,q⟩:=G.reach hi b a;refine nW hk ?_;rw[q,ks];rw[show kq (uk (D.ts w) k) (D.ts w).ng=I from nW b n];simp
end
section
open Go.RowKit Go.Maps
def Tryz.Rk:(Tryz.prog.info? 131).map (λi=>(i.zero,i.size,i.bytes))=J (J<|an #[ax L,ai L,H F 0,H F 0,V L 0 0,V L 0 0,V L 0 0,V L 0 0,V L 0 0,V L 0 0],10,176):=by kernel_rfl
def qa(nb:Nat)(fb:Nat->Int)(fs:Nat->Int):Nat->Nat->Nat->Bool|0,_,_=>Z|n+1,p,k=>if j8 nb fb (fs<|2*n)=p/\fs (2*n)=k then I else qa nb fb fs n p k
def qg(nb:Nat)(fb:Nat->Int)(fs:Nat->Int):Nat->Nat->Nat->Int|0,_,_=>0|n+1,p,k=>if j8 nb fb (fs<|2*n)=p/\fs (2*n)=k then fs (2*n+1)else qg nb fb fs n p k
def Xr(nb:Nat)(fb:Nat->Int)(x:Int):j8 nb fb x<=nb:=qN _ _
def iJ.Sz{w:U}{g m:Nat}{c:Nat->S}(h:iJ w g v m c){n b:Nat}{hs:Nat->Bool}{vl:Nat->Int}(i:lF n w b hs vl):g≠b:=by intro e;subst e;obtain⟨j,f,_⟩:=h;obtain⟨_,⟨k,a,d,_⟩,_⟩:=i;rw[f]at d;cases d
def FX(r:Nat):S:=if r=0 then ax L else if r=1 then ai L else if r=2\/r=3 then H F 0 else V L 0 0
def yk(D:iT)(e:Nat)(M:Nat->Nat)(p r:Nat):S:=if r=0 then ax (J<|M p)else if r=1 then ai (J ⟨e,0,L⟩)else if r=2 then H F (p:Nat)else if r=3 then H F (yD D (p:Int):Nat)else V L 0 0
def oz(D:iT)(e:Nat)(M:Nat->Nat)(k:Nat)(j:Nat):S:=if j<k*10 then yk D e M (j/10) (j%10)else FX (j%10)
def F8(D:iT)(e:Nat)(M:Nat->Nat){k r:Nat}(h:w<k)(a:r<10):oz D e M k (w*10+r)=yk D e M w r:=by unfold oz;rw[if_pos<|by omega,show(w*10+r)/10=w from by omega,show(w*10+r)%10=r from by omega]
def afu(D:iT)(e:Nat)(M:Nat->Nat)(k m:Nat)(f:Nat->S)(c:∀r,r<10->f (k*10+r)=yk D e (upd M k m) k r)(b:∀j,j<k*10\/k*10+10<=j->f j=oz D e M k j)(j:Nat):f j=oz D e (upd M k m) (k+1) j:=by
 by_cases a:j<k*10;.rw[b j<|ay a];unfold oz;rw[if_pos a,if_pos<|by omega];unfold yk;rw[jq _ _<|by omega]
 .by_cases d:j<k*10+10;(.obtain⟨r,rfl⟩:∃r,j=k*10+r:=⟨j-k*10,by omega⟩;rw[c r<|by omega,F8 _ _ _ (by omega)<|by omega]);.rw[b j<|au<|by omega];unfold oz;rw[if_neg a,if_neg<|by omega]
end
section
structure iG where
 iz:Nat
 read:Bool
 kept:List<|Nat×Int
 iF:Nat->Bool
structure Part where
 hs:Nat->Bool
 vl:Nat->Int
 n:Nat
 up:Nat
 opn:List iG
 iU:Nat->List jw
 taken:List jw
structure uI where
 dn:Bool
 ab:Bool
 r:Nat->Int
structure iE where
 part:Nat->Part
 res:Nat->uI
structure iB where
 D:iT
 W:Nat
 C:Nat
 K:Nat
def kN(D:iT)(k:Nat):Nat:=j8 D.nb D.fb k
def Bh(D:iT)(a b p:Nat):Bool:=kq (λj=>(j8 D.nb D.fb ((D.ts a).wr j)==p)&&ks (D.ts b) ((D.ts a).wr j)) (D.ts a).nw
def qQ(D:iT)(a b p:Nat):Bool:=Bh D a b p||Bh D b a p
def pw(D:iT)(p i:Nat):Nat:=pC (λi=>jE D i p) (D.nl-i) i
def jC(hs:Nat->Bool)(vl:Nat->Int):Nat->List (Nat×Int)|0=>[]|k+1=>jC hs vl k++if hs k then[(k,vl k)]else[]
def xe(t:iP)(hs:Nat->Bool)(vl:Nat->Int):List<|Nat×Int:=(jC hs vl 100).filter λx=>ks t x.1
def pD(i:Nat):iG:=⟨i,Z,[],λ_=>Z⟩
def lL(c:iB)(p:Nat)(P:Part):Option Part:=if P.up<c.D.nl/\P.opn.length≠c.W then J {P with opn:=P.opn++[pD P.up],up:=pw c.D p<|P.up+1}else L
def tH(D:iT)(p:Nat)(l:List iG)(i:Nat):Bool:=l.all λe=>!qQ D e.iz i p
def yC(D:iT)(p:Nat)(l:List iG)(at':Nat):Bool:=match l[at']? with|J e=>tH D p (l.take at') e.iz|L=>Z
def n6(f:iG->Bool)(l:List iG)(at':Nat):Bool:=match l[at']? with|J e=>f e|L=>Z
def pf(D:iT)(p:Nat)(l:List iG)(at':Nat):Bool:=n6 (λe=>!e.read) l at'&&yC D p l at'
def nt(D:iT)(p:Nat)(l:List iG):Nat:=pC (pf D p l) l.length 0
def rF(D:iT)(P:Part)(e:iG):iG:={e with read:=I,kept:=e.kept++xe (D.ts e.iz) P.hs P.vl}
def lK(c:iB)(p:Nat)(P:Part):Option Part:=if nt c.D p P.opn<P.opn.length then J {P with opn:=P.opn.modify (nt c.D p P.opn)<|rF c.D P}else L
def nX(D:iT)(q:Nat)(e:iG):Bool:=e.read&&!e.iF q&&jE D e.iz q
def lM(D:iT)(q:Nat)(l:List iG):Nat:=pC (n6 (nX D q) l) l.length 0
def ot(q:Nat)(e:iG):iG:={e with iF:=upd e.iF q I}
def om(p:Nat)(l:List iG)(i:Nat):jw:=match l[i]? with|J e=>⟨p,e.iz,e.kept⟩|L=>⟨p,0,[]⟩
def mP(q i:Nat)(P:Part):Part:={P with opn:=P.opn.modify i<|ot q}
def mW(p:Nat)(x:jw)(P:Part):Part:={P with iU:=upd P.iU p<|P.iU p++[x]}
def n7(c:iB)(p q:Nat)(E:iE):Option iE:=if lM c.D q (E.part p).opn<(E.part p).opn.length/\((E.part q).iU p).length≠c.C then J ⟨upd (upd E.part p<|mP q (lM c.D q (E.part p).opn)<|E.part p) q<|mW p (om p (E.part p).opn<|lM c.D q (E.part p).opn)<|E.part q,E.res⟩else L
def kX(q:Nat)(P:Part):Option Part:=match P.iU q with|[]=>L|x::l=>J {P with taken:=P.taken++[x],iU:=upd P.iU q l}
def uT(P:Part)(i q:Nat):Bool:=P.taken.any λt=>t.iz==i&&t.fr==q
def nR(D:iT)(p:Nat)(P:Part)(e:iG):Bool:=jO (λq=>q==p||!jE D e.iz q||(e.iF q&&uT P e.iz q))<|D.nb+1
def ky(c:iB)(p:Nat)(P:Part):List iG:=(P.opn.filter λe=>e.read&&nR c.D p P e).take c.K
def zb(D:iT)(p:Nat)(s:(Nat->Bool)×(Nat->Int))(x:nm):(Nat->Bool)×(Nat->Int):=if kN D x.key=p then(if x.del then(upd s.1 x.key Z,s.2)else(upd s.1 x.key I,upd s.2 x.key x.val))else s
def sV(D:iT)(p:Nat)(s:(Nat->Bool)×(Nat->Int))(l:List nm):(Nat->Bool)×(Nat->Int):=l.foldl (zb D p) s
def uC(D:iT)(P:Part)(e:iG):jc:=lu (D.ts e.iz)<|e.kept++lf e.iz P.taken
def pF(D:iT)(p i:Nat)(m:jc)(P:Part):Part:={P with hs:=(sV D p (P.hs,P.vl) m.ch).1,vl:=(sV D p (P.hs,P.vl) m.ch).2,n:=P.n+m.ch.length,opn:=P.opn.filter λe=>!(e.iz==i),taken:=P.taken.filter λt=>!(t.iz==i)}
def kS(D:iT)(p:Nat)(E:iE)(x:Nat×jc):iE:=⟨upd E.part p<|pF D p x.1 x.2<|E.part p,upd E.res x.1 ⟨I,x.2.ab,x.2.r⟩⟩
def lO(c:iB)(p:Nat)(P:Part):List<|Nat×jc:=(ky c p P).map λe=>(e.iz,uC c.D P e)
def pK(c:iB)(p:Nat)(E:iE):Option iE:=if ky c p (E.part p)=[]then L else J ((lO c p<|E.part p).foldl (kS c.D p) E)
def mF(E:iE)(p:Nat)(a:Option Part):Option iE:=a.map λP=>{E with part:=upd E.part p P}
def jI(c:iB)(E:iE)(p k q:Nat):Option iE:=if k=1 then mF E p (lL c p<|E.part p)else if k=2 then mF E p (lK c p<|E.part p)else if k=3 then(if q<=c.D.nb/\p≠q then n7 c p q E else L)else if k=4 then(if q<=c.D.nb/\p≠q then mF E p (kX q<|E.part p)else L)else if k=5 then pK c p E else L
def jh(P:Part)(i:Nat):Bool:=decide (i<P.up)&&!(P.opn.any λe=>e.iz==i)
def jZ(c:iB)(E:iE)(i:Nat):Bool:=jO (λp=>!jE c.D i p||jh (E.part p) i)<|c.D.nb+1
def wM:uI:=⟨Z,Z,λ_=>0⟩
def kH(c:iB)(E:iE)(i:Nat):uI:=if jZ c E i then E.res i else wM
def qd(D:iT)(a:Nat)(fs:Nat->Int)(p:Nat):Part:=⟨qa D.nb D.fb fs a p,qg D.nb D.fb fs a p,100,pw D p 0,[],λ_=>[],[]⟩
def mA(D:iT)(a:Nat)(fs:Nat->Int):iE:=⟨qd D a fs,λ_=>wM⟩
def ly(fs:Nat->Int):Nat->Nat->Bool|0,_=>Z|n+1,k=>if fs (2*n)=k then I else ly fs n k
def lS(fs:Nat->Int):Nat->Nat->Int|0,_=>0|n+1,k=>if fs (2*n)=k then fs (2*n+1)else lS fs n k
def na(t:iP)(s:(Nat->Bool)×(Nat->Int)):jc:=runM t t.nc ⟨Z,λ_=>0,[],s.1,s.2,0⟩
def pj(t:iP)(s:(Nat->Bool)×(Nat->Int)):(Nat->Bool)×(Nat->Int):=if(na t s).ab then s else((na t s).hs,(na t s).vl)
def j5(D:iT)(s:(Nat->Bool)×(Nat->Int)):Nat->(Nat->Bool)×(Nat->Int)|0=>s|i+1=>pj (D.ts i) (j5 D s i)
end
section
open Go.RowKit Go.Maps
def Ff{a:Type}(f:a->List S)(n:Nat)(b:∀x,(f x).length=n):∀l:List a,(l.flatMap f).length=l.length*n|[]=>by simp|x::l=>by simp[bl,b x,Ff f n b l,Nat.succ_mul];omega
def zu{a:Type}(f:a->List S)(n:Nat)(b:∀x,(f x).length=n):∀(l:List a)(k j:Nat)(x:a),l[k]?=J x->j<n->(l.flatMap f)[k*n+j]?=(f x)[j]?|[],k,j,x,h,_=>by simp at h|d::l,0,j,x,h,c=>by grind|d::l,k+1,j,x,h,c=>by simp only[List.getElem?_cons_succ]at h;rw[bl,List.getElem?_append_right<|by grind,b,<-zu f n b l k j x h c];grind
def jM(x:S×iG):List S:=[H F x.2.iz,ae x.2.read,x.1,ae<|x.2.iF 0,ae<|x.2.iF 1,ae<|x.2.iF 2,ae<|x.2.iF 3]
def jU(x:S×jw):List S:=[H F x.2.fr,H F x.2.iz,x.1]
def vI(x:S×iG):(jM x).length=7:=rfl
def IV(x:S×jw):(jU x).length=3:=rfl
def Own(z:Nat)(O:Nat->Nat)(b:Nat):Prop:=z<=O b/\O b<z+50
abbrev ph(z:Nat)(O:Nat->Nat)(b:Nat):Prop:=¬Own z O b
abbrev Ag(z:Nat)(O:Nat->Nat)(w a:U):Prop:=iD (ph z O) w a
def Ag.step{O a:Nat->Nat}{w:U}(h:Ag v O w j)(c:Ag v a j k)(e:∀b,b<w.heap.size->a b=O b):Ag v O w k:=⟨aP h.size c.size,λb hs d=>(c.block b (by unfold ph Own at hs⊢;grind)<|aW d h.size).trans<|h.block b hs d⟩
abbrev Fz(z:Nat)(O:Nat->Nat)(b:Nat):Prop:=ph z O b/\O b=0
abbrev Af(z:Nat)(O:Nat->Nat)(w a:U):Prop:=iD (Fz z O) w a
def Ag.af{O:Nat->Nat}{w:U}(h:Ag v O w j):Af v O w j:=h.mono λ_ x=>x.1
def Af.step{O a:Nat->Nat}{w:U}(h:Af v O w j)(c:Af v a j k)(e:∀b,b<w.heap.size->a b=O b):Af v O w k:=⟨aP h.size c.size,λb hs d=>(c.block b (by unfold Fz ph Own at hs⊢;grind)<|aW d h.size).trans<|h.block b hs d⟩
def nk(z:Nat)(O:Nat->Nat)(w:U)(v:S)(l:List<|Nat×Int):Prop:=(∃a c,v=V a l.length c)/\∀b,Af z O w b->pA b v l
def nk.rd{O:Nat->Nat}{w:U}{l:List<|Nat×Int}(h:nk v O w d l):pA w d l:=h.2 w<|iD.refl _ _
def nk.moveF{O c:Nat->Nat}{w:U}{l:List<|Nat×Int}(h:nk v O w d l)(e:Af v O w j)(g:∀b,b<w.heap.size->c b=O b):nk v c j d l:=⟨h.1,λa f=>h.2 a<|e.step f g⟩
def nk.move{O O':Nat->Nat}{w:U}{l:List<|Nat×Int}(h:nk v O w d l)(c:Ag v O w j)(a:∀b,b<w.heap.size->O' b=O b):nk v O' j d l:=h.moveF c.af a
def nk.nil(z:Nat)(O:Nat->Nat)(w:U):nk z O w (V L 0 0) []:=⟨⟨L,0,rfl⟩,λa _=>aay a 2⟩
def nk.own{O:Nat->Nat}{w:U}{l:List<|Nat×Int}(h:w.ownsRow 0 81 2 d l.length<|mL l)(k:∀b,d.ownBlock=J b->Fz v O b):nk v O w d l:=by
 refine⟨qR h,λn f=>Ft (base:=0) (e:=81) ?_<|Gw l⟩;rcases h.2 with i|⟨g,cap,a,rfl,j,c,m⟩;.exact⟨h.1,ay i⟩
 .exact⟨h.1,au ⟨g,cap,a,rfl,j,by rw[f.block g (k g rfl) (aK.1 c).1];exact c,m⟩⟩
def tQ(z:Nat)(O:Nat->Nat)(w:U)(x:S×iG):Prop:=nk z O w x.1 x.2.kept/\(x.2.read=Z->x.1=V L 0 0)
def tQ.moveF{O a:Nat->Nat}{w:U}{x:S×iG}(h:tQ v O w x)(c:Af v O w j)(d:∀b,b<w.heap.size->a b=O b):tQ v a j x:=⟨h.1.moveF c d,h.2⟩
def tQ.move{O O':Nat->Nat}{w:U}{x:S×iG}(h:tQ v O w x)(c:Ag v O w j)(a:∀b,b<w.heap.size->O' b=O b):tQ v O' j x:=h.moveF c.af a
def j4(z:Nat)(O:Nat->Nat)(w:U)(c:Nat)(v:S)(l:List iG):Prop:=∃a:List (S×iG),a.map Prod.snd=l/\w.ownsRow 0 173 7 v l.length (a.flatMap jM)/\(∀x∈a,tQ z O w x)/\∀b,v.ownBlock=J b->O b=c
def lY(z:Nat)(O:Nat->Nat)(w:U)(c:Nat)(v:S)(l:List jw):Prop:=∃a:List (S×jw),a.map Prod.snd=l/\w.ownsRow 0 195 3 v l.length (a.flatMap jU)/\(∀x∈a,nk z O w x.1 x.2.ps)/\∀b,v.ownBlock=J b->O b=c
def ub{w:U}{e:aF}{n:Nat}{c:List S}(h:w.ownsRow 0 e v d n c)(l:∀b,d.ownBlock=J b->j.heap[b]?=w.heap[b]?):j.ownsRow 0 e v d n c:=by
 rcases h.2 with m|⟨g,cap,a,rfl,i,f,k⟩;.exact⟨h.1,ay m⟩
 .exact⟨h.1,au ⟨g,cap,a,rfl,i,by rw[l g rfl];exact f,k⟩⟩
def j4.moveF{O f:Nat->Nat}{w:U}{c:Nat}{l:List iG}(h:j4 v O w c d l)(m:Af v O w j)(i:∀b,b<w.heap.size->f b=O b)(n:∀b,b<w.heap.size->O b=c->j.heap[b]?=w.heap[b]?):j4 v f j c d l:=by obtain⟨q,k,e,r,g⟩:=h;exact⟨q,k,ub e λb a=>n b (e.lt b a).2<|g b a,λx p=>(r x p).moveF m i,λb a=>by rw[i b (e.lt b a).2];exact g b a⟩
def j4.move{O O':Nat->Nat}{w:U}{c:Nat}{l:List iG}(h:j4 v O w c d l)(e:Ag v O w j)(f:∀b,b<w.heap.size->O' b=O b)(a:∀b,b<w.heap.size->O b=c->j.heap[b]?=w.heap[b]?):j4 v O' j c d l:=h.moveF e.af f a
def lY.moveF{O f:Nat->Nat}{w:U}{c:Nat}{l:List jw}(h:lY v O w c d l)(m:Af v O w j)(i:∀b,b<w.heap.size->f b=O b)(n:∀b,b<w.heap.size->O b=c->j.heap[b]?=w.heap[b]?):lY v f j c d l:=by obtain⟨q,k,e,r,g⟩:=h;exact⟨q,k,ub e λb a=>n b (e.lt b a).2<|g b a,λx p=>(r x p).moveF m i,λb a=>by rw[i b (e.lt b a).2];exact g b a⟩
def lY.move{O O':Nat->Nat}{w:U}{c:Nat}{l:List jw}(h:lY v O w c d l)(e:Ag v O w j)(f:∀b,b<w.heap.size->O' b=O b)(a:∀b,b<w.heap.size->O b=c->j.heap[b]?=w.heap[b]?):lY v O' j c d l:=h.moveF e.af f a
def j4.nil(z:Nat)(O:Nat->Nat)(w:U)(c:Nat):j4 z O w c (V L 0 0) []:=⟨[],rfl,aQ _ _ _ _,by simp,λb a=>by cases a⟩
def lY.nil(z:Nat)(O:Nat->Nat)(w:U)(c:Nat):lY z O w c (V L 0 0) []:=⟨[],rfl,aQ _ _ _ _,by simp,λb a=>by cases a⟩
def j4.slice{O:Nat->Nat}{w:U}{c:Nat}{l:List iG}(h:j4 v O w c d l):∃a cap,d=V a l.length cap:=by obtain⟨f,e,b,_⟩:=h;exact qR b
def lY.slice{O:Nat->Nat}{w:U}{c:Nat}{l:List jw}(h:lY v O w c d l):∃a cap,d=V a l.length cap:=by obtain⟨f,e,b,_⟩:=h;exact qR b
def kL(z:Nat)(O:Nat->Nat)(w:U)(e p s:Nat)(v:S)(P:Part):Prop:=if s=0 then∃M,v=ax (J M)/\O M=z+p*10/\M<w.heap.size/\lF P.n w M P.hs P.vl else if s=1 then v=ai (J ⟨e,0,L⟩)else if s=2 then v=H F (p:Nat)else if s=3 then v=H F (P.up:Nat)else if s=4 then j4 z O w (z+p*10+4) v P.opn else if s=9 then lY z O w (z+p*10+9) v P.taken else lY z O w (z+p*10+s) v (P.iU<|s-5)
def kL.moveF{O A:Nat->Nat}{w:U}{e:Nat}{P:Part}(h:kL v O w e x a d P)(i:Af v O w j)(n:∀b,b<w.heap.size->A b=O b)(g:∀b,b<w.heap.size->O b=v+x*10+a->j.heap[b]?=w.heap[b]?):kL v A j e x a d P:=by
 unfold kL at h⊢;split;.rename_i f;rw[if_pos f]at h;obtain⟨M,m,r,k,c⟩:=h;exact⟨M,m,by grind,aW k i.size,c.block<|g M k<|by rw[r,f];rfl⟩
 rename_i f;rw[if_neg f]at h;split;.grind
 rename_i m;rw[if_neg m]at h;split;.grind
 rename_i r;rw[if_neg r]at h;split;.grind
 rename_i k;rw[if_neg k]at h;split;.rename_i c;rw[if_pos c]at h;exact h.moveF i n λb t q=>g b t<|by rw[q,c]
 rename_i c;rw[if_neg c]at h;split;.rename_i l;rw[if_pos l]at h;exact h.moveF i n λb t q=>g b t<|by rw[q,l]
 rename_i l;rw[if_neg l]at h;exact h.moveF i n g
def kL.move{O O':Nat->Nat}{w:U}{e:Nat}{P:Part}(h:kL v O w e x a d P)(f:Ag v O w j)(g:∀b,b<w.heap.size->O' b=O b)(c:∀b,b<w.heap.size->O b=v+x*10+a->j.heap[b]?=w.heap[b]?):kL v O' j e x a d P:=h.moveF f.af g c
def Ey(s:Nat)(P a:Part):Prop:=(s=0->P.n=a.n/\P.hs=a.hs/\P.vl=a.vl)/\(s=3->P.up=a.up)/\(s=4->P.opn=a.opn)/\(s=9->P.taken=a.taken)/\(5<=s->s<9->P.iU (s-5)=a.iU (s-5))
def kL.congr{O:Nat->Nat}{w:U}{e:Nat}{P b:Part}(h:kL v O w e x a d P)(hs:Ey a P b)(c:a<10):kL v O w e x a d b:=by obtain⟨e0,e3,g,f,i⟩:=hs;unfold kL at h⊢;grind
def AQ(r:uI)(j:Nat):S:=if j=0 then ae r.dn else if j=1 then ae r.ab else H F (r.r<|j-2)
structure iS(z:Nat)(O:Nat->Nat)(w:U)(e:Nat)(c:iB)(vB vL:S)(K R:Nat)(f:Nat->S)(E:iE):Prop where
 k:∀w',Af z O w w'->mn w' e c.D vB vL/\w'.cell? ⟨e,1,none⟩=some (H F (c.W:Nat))/\w'.cell? ⟨e,2,none⟩=some (H F (c.C:Nat))/\w'.cell? ⟨e,3,none⟩=some (H F (c.K:Nat))/\w'.cell? ⟨e,5,none⟩=some (V (some ⟨K,0,none⟩) (c.D.nb+1)<|c.D.nb+1)/\w'.cell? ⟨e,6,none⟩=some (V (some ⟨R,0,none⟩) c.D.nl c.D.nl)
 oK:O K=z+40
 oR:O R=z+41
 row:iJ w K 131 ((c.D.nb+1)*10) f
 part:∀p s,p<=c.D.nb->s<10->kL z O w e p s (f<|p*10+s) (E.part p)
 res:iJ w R 75 (c.D.nl*6) λj=>AQ (E.res<|j/6)<|j%6
def iS.known{O:Nat->Nat}{w:U}{e:Nat}{c:iB}{K R:Nat}{a:Nat->S}{E:iE}(h:iS v O w e c d f K R a E):mn w e c.D d f:=(h.k w<|iD.refl _ _).1
def iS.move{O O':Nat->Nat}{w:U}{e:Nat}{c:iB}{K R:Nat}{n:Nat->S}{E:iE}(h:iS v O w e c d f K R n E)(i:∀b,b<w.heap.size->j.heap[b]?=w.heap[b]?)(hs:w.heap.size<=j.heap.size)(g:∀b,b<w.heap.size->O' b=O b):iS v O' j e c d f K R n E:=by have a:Ag v O w j:=⟨hs,λb _ m=>i b m⟩;exact⟨λl r=>h.k l<|a.af.step r g,by rw[g K h.row.lt];exact h.oK,by rw[g R h.res.lt];exact h.oR,h.row.block<|i K h.row.lt,λp s q hs=>(h.part p s q hs).move a g λb m _=>i b m,h.res.block<|i R h.res.lt⟩
def iS.below{O:Nat->Nat}{w:U}{e:Nat}{c:iB}{K R:Nat}{i:Nat->S}{E:iE}(h:iS v O w e c d f K R i E)(g:y w.heap.size w j):iS v O j e c d f K R i E:=h.move (λb a=>g.block b a) g.size λ_ _=>rfl
def iS.put{O O':Nat->Nat}{w w':U}{e:Nat}{c:iB}{K R:Nat}{N:Nat->S}{E:iE}(h:iS x O w e c d f K R N E){p s:Nat}(hp:p<=c.D.nb)(aa:c.D.nb<=3)(W:s<10){v:S}{P:Part}(C:w.heap.size<=w'.heap.size)(q:∀b,b<w.heap.size->O' b=O b)(A:∀b,b<w.heap.size->O b≠x+p*10+s->b≠K->w'.heap[b]?=w.heap[b]?)(t:iJ w' K 131 ((c.D.nb+1)*10) λj=>if j=p*10+s then v else N j)(hv:kL x O' w' e p s v P)(hP:∀l,l<10->l≠s->Ey l (E.part p) P):iS x O' w' e c d f K R (λj=>if j=p*10+s then v else N j) {E with part:=upd E.part p P}/\Ag x O w w':=by
 have g:Ag x O w w':=⟨C,λb X r=>A b r (λT=>X ⟨by omega,by omega⟩) λhk=>X<|by rw[hk];exact⟨by rw[h.oK];omega,by rw[h.oK];omega⟩⟩;refine⟨⟨λG h'=>h.k G<|g.af.step h' q,by rw[q K h.row.lt];exact h.oK,by rw[q R h.res.lt];exact h.oR,t,λB l n i=>?_,h.res.block<|A R h.res.lt (by rw[h.oR];omega) λhk=>by have a:=h.oK;have b:=h.oR;grind⟩,g⟩;by_cases m:B=p;.subst m;simp only[upd_same];by_cases M:l=s;(.grind);.rw[if_neg<|by omega];exact((h.part B l n i).move g q λb r T=>A b r (by omega) λhk=>by have a:=h.oK;grind).congr (hP l i M) i
 .simp only[jq _ _ m];rw[if_neg<|by omega];exact(h.part B l n i).move g q λb r T=>A b r (by omega) λhk=>by have a:=h.oK;grind
def CZ{ops:Array Oper}{b:Oper}{a:Act}{w:U}{K:Act->U->Prop}{k:Exit->Act->U->Prop}{E:Prop}(j:b.guard=L)(s x:Operand)(t:aF)(d:b.op=Op.call {callee:=Callee.builtin Builtin.append,args:=#[s,x],argTypes:=#[t,t]})(g e:S)(hs:a.eval s=g)(m:a.eval x=e)(h:S)(f:U)(c:∀ty,(aG #[t,t] ty #[g,e]).run r w=.ok h f)(l:K (a.put b.dst h) f):if Region.wanted b (yielded ops a.tmps)=I then Oper.wp r b a w K k else E:=by
 have i:Region.wanted b (yielded ops a.tmps)=I:=by simp[Region.wanted,j]
 rw[if_pos i];unfold Oper.wp;simp[execOp,d,resolve,invoke,builtin,hs,m,c,Result.andThen];exact l
def JF{P:Program}(w:U)(t e:aF)(i:TypeInfo)(z:S)(size bytes:Nat)(K:P.underlying t=J (.slice e))(hi:P.info? e=J i)(X:i.zero=J z)(q:i.size=size)(B:i.bytes=bytes)(M:z.cells.size=size)(R:0<size)(v:S)(n:Nat)(x:List S)(k:w.ownsRow 0 e size v n x)(a:aE)(m c:Nat)(b:List S)(C:b.length=m*size)(d:∀j s,b[j]?=J s->w.cell? (a.add j)=J s)(h1:∀s∈b,s.oneCell'=I)(hm:0<m)(D:n+m<=maxLen)(f:(n+m)*bytes<=140737488355328):∃h l,(∀ty,(aG #[t,t] ty #[v,V (J a) m c]).run P w=.ok h l)/\l.ownsRow 0 e size h (n+m) (x++b)/\w.grownBy l v.ownBlock/\(h.ownBlock=v.ownBlock\/h.ownBlock=J w.heap.size):=by
 have key:∀ty,∃h l,(aG #[t,t] ty #[v,V (J a) m c]).run P w=.ok h l/\l.ownsRow 0 e size h (n+m) (x++b)/\w.grownBy l v.ownBlock:=λty=>by obtain⟨h,l,r1,r2,r3,_⟩:=run_append_own (P:=P) w 0 t ty e i z size bytes K hi X q B M R v n x k a m c b C d h1 D f<|aN _;exact⟨h,l,r1,r2,r3⟩
 have G:n+m<=9223372036854775807:=by simp only[maxLen]at D;omega
 subst q;subst B;have one:∃h l,(∀ty,(aG #[t,t] ty #[v,V (J a) m c]).run P w=.ok h l)/\(h.ownBlock=v.ownBlock\/h.ownBlock=J w.heap.size):=by rcases k.2 with⟨rfl,rfl⟩|⟨g,cap,E,rfl,ad,hg,aa,ac,T,O⟩;(.exact⟨_,_,λty=>run_append_nil (P:=P) w t ty e i z K hi X a m c b C d (by omega) (by omega)<|by have N:=f;simp only[bd]at N;omega,au rfl⟩);.by_cases p:n+m<=cap;(. (have A:n*i.size+b.length<=E.size:=by rw[C,T,<-Nat.add_mul];exact Nat.mul_le_mul_right _ p);exact⟨_,_,λty=>run_append_room (P:=P) w t ty e i K hi g n cap E hg a m c b C d h1 p A,ay rfl⟩);.have r:∀j s,x[j]?=J s->w.cell? ((⟨g,0,L⟩:aE).add j)=J s:=k.cells (g:=g) rfl;exact⟨_,_,λty=>run_append_grow (P:=P) w t ty e i z K hi X ⟨g,0,L⟩ n cap x k.1 r a m c b C d (by omega) (by omega)<|growslice_fits (by omega) f,au rfl⟩
 obtain⟨h,l,hr,N⟩:=one;refine⟨h,l,hr,?_⟩;obtain⟨v2,w2,r1,r2,r3⟩:=key 0;rw[hr 0]at r1;injection r1 with r1 W;subst r1;subst W;exact⟨r2,r3,N⟩
def Tryz.I1:(Tryz.prog.info? 173).map (λi=>(i.zero,i.size,i.bytes))=J (J<|an #[H F 0,ae Z,V L 0 0,ae Z,ae Z,ae Z,ae Z],7,48):=by kernel_rfl
def Tryz.Hn:(Tryz.prog.info? 195).map (λi=>(i.zero,i.size,i.bytes))=J (J<|an #[H F 0,H F 0,V L 0 0],3,40):=by kernel_rfl
end
section
abbrev Cells:=(Nat->Bool)×(Nat->Int)
def iW(s:Cells)(k:Nat):Option Int:=if s.1 k then J (s.2 k)else L
def Aj(s:Cells)(k:Nat)(x:Int)(j:Nat):iW (upd s.1 k I,upd s.2 k x) j=if j=k then J x else iW s j:=by by_cases h:j=k<;>simp[iW,upd,h]
def CJ(s:Cells)(k j:Nat):iW (upd s.1 k Z,s.2) j=if j=k then L else iW s j:=by by_cases h:j=k<;>simp[iW,upd,h]
def Up(hs:Nat->Bool)(vl:Nat->Int)(k:Nat):valOf hs vl k=(iW (hs,vl) k).getD 0:=by cases h:hs k<;>simp[valOf,iW,h]
def CH(hs:Nat->Bool)(vl:Nat->Int)(k:Nat):hs k=(iW (hs,vl) k).isSome:=by cases h:hs k<;>simp[iW,h]
def Nz{s a:Cells}{k:Nat}(h:iW s k=iW a k):s.1 k=a.1 k/\(s.1 k=I->s.2 k=a.2 k):=by unfold iW at h;grind
def MW{hs a:Nat->Bool}{vl b:Nat->Int}{lo:Nat}:∀{n:Nat},(∀j,j<n->iW (hs,vl) (lo+j)=iW (a,b) (lo+j))->lQ hs vl lo n=lQ a b lo n|0,_=>rfl|n+1,h=>by have e:=MW (n:=n) λj f=>h j (by omega);obtain⟨c,d⟩:=Nz<|h n (by omega);simp only at c d;simp only[lQ,e,<-c];grind
def Ls{hs a:Nat->Bool}{vl b:Nat->Int}{lo:Nat}:∀{n:Nat},(∀j,j<n->iW (hs,vl) (lo+j)=iW (a,b) (lo+j))->mY hs lo n=mY a lo n|0,_=>rfl|n+1,h=>by have c:=Ls (n:=n) λj e=>h j (by omega);obtain⟨d,f⟩:=Nz<|h n (by omega);simp only at d;simp only[mY]at c⊢;simp only[jN,c,d]
structure xE(t:iP)(m m':jc):Prop where
 ab:m.ab=m'.ab
 r:m.r=m'.r
 ch:m.ch=m'.ch
 nx:m.nx=m'.nx
 c:∀k:Nat,ks t k=true->iW (m.hs,m.vl) k=iW (m'.hs,m'.vl) k
def IB{t:iP}{k:Int}(h:hasB t.nr t.r k=I\/hasB t.nw t.wr k=I):ks t k=I:=by rcases h with h|h<;>simp[ks,h]
def Bb{t:iP}(h:ld t=I):nC t.nr t.r=I/\nC t.nw t.wr=I/\rm t.ng t.g=I/\t.nc<=16/\jO (qG t) t.nc=I:=by simp only[ld,wi,Q,decide_eq_true_eq]at h;grind
def Dy{n lo hi:Int}(h:iX n lo hi=I)(a:0<=lo):∃k:Nat,n=k/\lo<=k/\(k:Int)<=hi:=by simp only[iX,Q,decide_eq_true_eq]at h;exact⟨n.toNat,by omega,by omega,by omega⟩
def Av{n:Nat}{f:Nat->Int}(h:hasB n f m=I)(hk:nC n f=I):∃k:Nat,m=k/\k<100:=by obtain⟨i,hi,a⟩:=tv h;simp only[nC,Q]at hk;have:=nO hk.2 hi;rw[beq_iff_eq]at a;rw[a]at this;obtain⟨k,rfl,_,b⟩:=Dy this<|ah 0;grind
def MD{t:iP}(h:ld t=I){j:Nat}(b:j<t.ng):∃lo hi:Nat,t.g (2*j)=lo/\t.g (2*j+1)=hi/\lo<=hi/\hi<=99:=by have:=(Bb h).2.2.1;simp only[rm,Q]at this;have:=nO this.2 b;simp only[oS,Q,decide_eq_true_eq]at this;obtain⟨⟨a,c⟩,f⟩:=this;obtain⟨lo,e1,d,e⟩:=Dy a<|ah 0;obtain⟨hi,e2,b1,b2⟩:=Dy c<|ah 0;grind
def LH{t:iP}(h:ld t=I){k:Nat}(hk:ks t k=I):k<100:=by
 obtain⟨d,b,f,_,_⟩:=Bb h;simp only[ks,aH]at hk;rcases hk with(hk|hk)|hk;.obtain⟨j,e,a⟩:=Av hk d;omega
 .obtain⟨j,a,c⟩:=tv hk;obtain⟨lo,hi,e1,e2,_,_⟩:=MD h a;simp only[uk,e1,e2,Q,decide_eq_true_eq]at c;omega
 .obtain⟨j,e,a⟩:=Av hk b;omega
def OS{t:iP}(h:ld t=I)(a:iX m 0 (t.ng-1)=I)(b:w<tj t m+1-qI t m):ks t ((qI t m+w:Nat):Int)=I:=by obtain⟨x,rfl,_,e⟩:=Dy a<|ah 0;obtain⟨lo,hi,e1,e2,d,c⟩:=MD h (j:=x) (by omega);simp only[qI,tj,aI,e1,e2]at b⊢;have:kq (uk t ((lo+w:Nat):Int)) t.ng=I:=nW (k:=x) (by omega) (by simp only[uk,e1,e2,Q,decide_eq_true_eq];omega);unfold ks;rw[this];simp
def xE.step{t:iP}(T:ld t=I){m e:jc}(h:xE t m e)(g:m.nx<t.nc):xE t (lV t m)<|lV t e:=by
 obtain⟨k1,k2,k3,k4,k5⟩:=Bb T;have d:=nO k5 g;unfold qG at d;obtain⟨e1,e2,e3,l,e5⟩:=h;unfold lV;rw[<-l];generalize t.c (4*m.nx)=K at*;generalize t.c (4*m.nx+1)=A at*;generalize t.c (4*m.nx+2)=X at*;generalize t.c (4*m.nx+3)=C at*;unfold mS at d;unfold qO;by_cases c1:K=1;.simp only[if_pos c1];exact⟨e1,by simp only[e2],e3,rfl,e5⟩
 simp only[if_neg c1]at d⊢;by_cases c2:K=2;.simp only[if_pos c2]at d⊢;simp only[Q,aH]at d;(have hk:∃k:Nat,X=k/\k<100:=by rcases d.2 with h|h;(.exact Av h k1);.exact Av h k2);obtain⟨k,rfl,_⟩:=hk;refine⟨e1,?_,e3,rfl,e5⟩;simp only[Up,e2,aI,e5 k<|IB d.2]
 simp only[if_neg c2]at d⊢;by_cases c3:K=3;.simp only[if_pos c3]at d⊢;refine⟨e1,e2,by grind,rfl,λk hk=>?_⟩;have a:=Aj (m.hs,m.vl) A.toNat (m.r X.toNat) k;have b:=Aj (e.hs,e.vl) A.toNat (e.r X.toNat) k;grind
 simp only[if_neg c3]at d⊢;by_cases c4:K=4;.simp only[if_pos c4]at d⊢;refine⟨e1,e2,by simp only[e3],rfl,λk hk=>?_⟩;have a:=CJ (m.hs,m.vl) A.toNat k;have b:=CJ (e.hs,e.vl) A.toNat k;grind
 simp only[if_neg c4]at d⊢;by_cases c5:K=5;.simp only[if_pos c5]at⊢;simp only[if_pos<|ay c5,Q]at d;refine⟨e1,?_,e3,rfl,e5⟩;simp only[e2];rw[MW λj f=>e5 _<|OS T d.2 f]
 simp only[if_neg c5]at⊢;by_cases c6:K=6;.simp only[if_pos c6]at⊢;simp only[if_pos<|au c6,Q]at d;refine⟨e1,?_,e3,rfl,e5⟩;simp only[e2];rw[Ls λj f=>e5 _<|OS T d.2 f]
 simp only[if_neg c6]at⊢;by_cases c7:K=7;.simp only[if_pos c7];exact⟨e1,by simp only[e2],e3,rfl,e5⟩
 simp only[if_neg c7]at⊢;by_cases i:K=8;.simp only[if_pos i];exact⟨e1,by simp only[e2],e3,rfl,e5⟩
 simp only[if_neg i]at⊢;by_cases c9:K=9;.simp only[if_pos c9];exact⟨e1,e2,e3,by simp only[e2],e5⟩
 simp only[if_neg c9];exact⟨rfl,e2,rfl,rfl,e5⟩
def xE.run{t:iP}(T:ld t=I):∀(f:Nat){m b:jc},xE t m b->xE t (runM t f m) (runM t f b)|0,_,_,h=>h|f+1,m,b,h=>by unfold runM;by_cases a:m.nx<t.nc;(.rw[if_pos a,if_pos<|by rw[<-h.nx];exact a];exact xE.run T f<|h.step T a);.rw[if_neg a,if_neg<|by rw[<-h.nx];exact a];exact h
def wU(k:Nat)(a:Option Int)(x:nm):Option Int:=if x.key=k then(if x.del then L else J x.val)else a
structure wO(t:iP)(s:Cells)(m:jc):Prop where
 c:∀k,m.ab=false->iW (m.hs,m.vl) k=m.ch.foldl (wU k) (iW s k)
 w:∀x∈m.ch,hasB t.nw t.wr (x.key:Int)=true
 a:m.ab=true->m.ch=[]/\t.nc<=m.nx
def wO.step{t:iP}(T:ld t=I){s:Cells}{m:jc}(h:wO t s m)(i:m.nx<t.nc):wO t s<|lV t m:=by
 obtain⟨k1,k2,k3,k4,k5⟩:=Bb T;have b:=nO k5 i;unfold qG at b;obtain⟨d,f,p⟩:=h;have g:m.ab=Z:=by grind
 unfold lV;generalize t.c (4*m.nx)=K at*;generalize t.c (4*m.nx+1)=A at*;generalize t.c (4*m.nx+2)=X at*;generalize t.c (4*m.nx+3)=C at*;unfold mS at b;unfold qO;by_cases c1:K=1;.simp only[if_pos c1];exact⟨d,f,λe=>by grind⟩
 simp only[if_neg c1]at b⊢;by_cases c2:K=2;.simp only[if_pos c2];exact⟨d,f,λe=>by grind⟩
 simp only[if_neg c2]at b⊢;by_cases c3:K=3;.simp only[if_pos c3,Q]at b⊢;obtain⟨k,rfl,_⟩:=Av b.1 k2;refine⟨λj _=>?_,λx n=>?_,λe=>by grind⟩;(.have a:=Aj (m.hs,m.vl) (k:Int).toNat (m.r X.toNat) j;simp only[aI]at a⊢;rw[a,d j g,aV];simp only[aJ,wU];grind);grind
 simp only[if_neg c3]at b⊢;by_cases c4:K=4;.simp only[if_pos c4]at b⊢;obtain⟨k,rfl,_⟩:=Av b k2;refine⟨λj _=>?_,λx n=>?_,λe=>by grind⟩;(.have a:=CJ (m.hs,m.vl) (k:Int).toNat j;simp only[aI]at a⊢;rw[a,d j g,aV];simp only[aJ,wU];grind);grind
 simp only[if_neg c4]at b⊢;by_cases c5:K=5;.simp only[if_pos c5];exact⟨d,f,λe=>by grind⟩
 simp only[if_neg c5]at⊢;by_cases c6:K=6;.simp only[if_pos c6];exact⟨d,f,λe=>by grind⟩
 simp only[if_neg c6]at⊢;by_cases c7:K=7;.simp only[if_pos c7];exact⟨d,f,λe=>by grind⟩
 simp only[if_neg c7]at⊢;by_cases l:K=8;.simp only[if_pos l];exact⟨d,f,λe=>by grind⟩
 simp only[if_neg l]at⊢;by_cases c9:K=9;.simp only[if_pos c9];exact⟨d,f,λe=>by grind⟩
 simp only[if_neg c9];exact⟨λk e=>by simp at e,by simp,λ_=>⟨rfl,aj _⟩⟩
def wO.run{t:iP}(T:ld t=I){s:Cells}:∀(f:Nat){m:jc},wO t s m->wO t s (runM t f m)|0,_,h=>h|f+1,m,h=>by unfold runM;by_cases a:m.nx<t.nc;(.rw[if_pos a];exact wO.run T f<|h.step T a);grind
def Ev{t:iP}(T:ld t=I)(s:Cells):wO t s<|na t s:=wO.run T _ ⟨λk _=>rfl,by simp,λe=>by cases e⟩
def OY{t:iP}(T:ld t=I)(s:Cells)(k:Nat):iW (pj t s) k=(na t s).ch.foldl (wU k) (iW s k):=by
 have h:=Ev T s;unfold pj;split;.rename_i e;rw[(h.a e).1];rfl
 .rename_i e;exact h.c k<|by simpa using e
def FH{k:Nat}:∀(l:List nm)(a:Option Int),(∀x∈l,x.key≠k)->l.foldl (wU k) a=a|[],_,_=>rfl|x::l,a,h=>by simp only[aJ];rw[show wU k a x=a from if_neg (h x<|by simp)];exact FH l a λb c=>h b (by simp[c])
def abt{t:iP}(T:ld t=I)(s:Cells){k:Nat}(hk:hasB t.nw t.wr (k:Int)=Z):iW (pj t s) k=iW s k:=by rw[OY T];refine FH _ _ λx a e=>?_;have:=(Ev T s).w x a;grind
def Hz(D:iT)(p k:Nat):∀(l:List nm)(s:Cells),iW (sV D p s l) k=if kN D k=p then l.foldl (wU k) (iW s k)else iW s k|[],s=>by simp[sV]|x::l,s=>by have b:=Hz D p k l<|zb D p s x;simp only[sV,aJ]at b⊢;rw[b];(have one:iW (zb D p s x) k=if kN D k=p then wU k (iW s k) x else iW s k:=by unfold zb wU;by_cases e:x.key=k;(.subst e;by_cases h:kN D x.key=p;(.simp only[if_pos h];split;(.rw[CJ];simp);.rw[Aj];simp);grind);.have a:¬k=x.key:=λh=>e h.symm;(have c:iW (if kN D x.key=p then(if x.del then(upd s.1 x.key Z,s.2)else(upd s.1 x.key I,upd s.2 x.key x.val))else s) k=iW s k:=by split;(.split;(.rw[CJ,if_neg a]);.rw[Aj,if_neg a]);.rfl);grind);grind
def Q8{f:Nat->Option Int}{k:Nat}(l:List<|Nat×Int)(d:∀x∈l,f x.1=J x.2)(i:∀v,f k=J v->(k,v)∈l):iW (xY l) k=f k:=by
 have a:∀(l:List<|Nat×Int)(s:Cells),(∀x∈l,f x.1=J x.2)->iW (l.foldl (λs p=>(upd s.1 p.1 I,upd s.2 p.1 p.2)) s) k=if l.any (λx=>x.1==k)then f k else iW s k:=by intro l;induction l with|nil=>intro s _;simp|cons x l c=>intro s h;simp only[aJ];rw[c _ λb g=>h b<|by simp[g],Aj];grind
 have:=a l (λ_=>Z,λ_=>0) d;rw[show xY l=l.foldl (λs p=>(upd s.1 p.1 I,upd s.2 p.1 p.2)) (λ_=>Z,λ_=>0)from rfl,this];cases e:f k with|none=>split<;>rfl|some v=>grind
def Wz{t:iP}(T:ld t=I)(s:Cells)(l:List<|Nat×Int)(c:∀x∈l,iW s x.1=J x.2)(a:∀k v,ks t (k:Nat)=I->iW s k=J v->(k,v)∈l):xE t (lu t l)<|na t s:=xE.run T _ ⟨rfl,rfl,rfl,rfl,λk hk=>Q8 l c λv b=>a k v hk b⟩
def An(hs:Nat->Bool)(vl:Nat->Int)(k:Nat)(v:Int):∀n,(k,v)∈jC hs vl n↔k<n/\iW (hs,vl) k=J v|0=>by simp[jC]|n+1=>by simp only[jC,List.mem_append,An hs vl k v n];cases e:hs n with|false=>simp only[iW];grind|true=>simp only[iW];grind
def ON(t:iP)(hs:Nat->Bool)(vl:Nat->Int)(k:Nat)(v:Int):(k,v)∈xe t hs vl↔k<100/\iW (hs,vl) k=J v/\ks t k=I:=by simp only[xe,List.mem_filter,An,and_assoc]
def xV(hs:Nat->Bool)(vl:Nat->Int):∀n,(jC hs vl n).length<=n|0=>aj _|n+1=>by have:=xV hs vl n;simp only[jC,bg];grind
def Z9(t:iP)(hs:Nat->Bool)(vl:Nat->Int):(xe t hs vl).length<=100:=aP (List.length_filter_le _ _)<|xV _ _ _
end
end Go.Proofs.YtldeiiffabfmeaaGreatDoor
