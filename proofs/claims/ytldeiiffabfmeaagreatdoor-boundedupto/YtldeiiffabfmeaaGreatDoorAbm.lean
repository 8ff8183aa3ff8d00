/- - -/
import Derived.RegionTactic
import Derived.ChangeAlike
import Derived.BigRegion
import Derived.Deep.RegionLaw
import Derived.Deep.RegionHeld3
import Derived.Deep.DeepCutAuto
import Derived.Test.YtldeiiffabfmeaaGreatDoorAam
set_option linter.all false
set_option maxRecDepth 100000
set_option maxHeartbeats 4000000
open Bool renaming and_eq_true->ae,true->ak,false->az,or_eq_true->aI
open Go renaming Value->ah,World->ai,Calls->aQ,TypeId->bu,Addr->bA
open Option renaming some->aj,none->ao
open Go.RowKit.Below renaming refl->an,heap_setCell->ay
open Go.Proofs.Tryz renaming prog->aq,underlying3->aA,underlying119->aJ,ntmps208->bn,func208->bq
open Int renaming le_refl->ar,toNat_natCast->aF
open Nat renaming le_refl->au,lt_of_lt_of_le->aP,le_trans->aY,zero_le->bd,lt_succ_of_lt->bh,zero_add->bj,succ_mul->bl,lt_succ_self->bm,mul_comm->bw,lt_or_ge->bz
open Array renaming getElem?_eq_some_iff->ax
open Go.Value renaming ownBlock->aD,slice->aG
open Go.RowKit renaming Below->aE
open Go.Builtin renaming append_->aH
open Option.some renaming injEq->aK
open List renaming mem_append->aM,mem_singleton->aN,foldl_append->aW,flatMap_cons->aX,foldl->aZ,length_append->bg
open Go.World renaming ownsRow_nil->aU
open Go.Lit renaming int->aV
namespace Go.Proofs.YtldeiiffabfmeaaGreatDoor
section
open Go.RowKit Go.Maps
structure om where
 key:Nat
 val:Int
 del:Bool
def pk:List om->List ah|[]=>[]|c::l=>.int .i64 c.key::.int .i64 c.val::.bool c.del::pk l
theorem YV(l m:List om):pk (l++m)=pk l++pk m:=by induction l with|nil=>rfl|cons p l a=>simp[pk,a]
structure jq where
 ab:Bool
 r:Nat->Int
 ch:List om
 hs:Nat->Bool
 vl:Nat->Int
 nx:Nat
def sx(m:jq)(e a b c d:ah)(f:Nat):Nat->ah|0=>.bool m.ab|1=>.int .i64 (m.r 0)|2=>.int .i64 (m.r 1)|3=>.int .i64 (m.r 2)|4=>.int .i64 (m.r 3)|5=>e|6=>a|7=>b|8=>c|9=>d|10=>.map (aj f)|11=>.int .i64 m.nx|_=>undef
structure jR(w:ai)(B mb xb:Nat)(a b c d:ah)(n:Nat)(m:jq):Prop where
 ge:B<=mb/\B<=xb
 ex:∃vC,iO w mb 249 12 (sx m vC a b c d xb)/\w.ownsRow B 229 3 vC m.ch.length (pk m.ch)/\vC.ownBlock≠some mb/\qJ w vC
 mI:mz n w xb m.hs m.vl
theorem tQ{w:ai}{e g:Nat}{i a b c d:ah}{m:jq}(h:iO w e 249 12 (sx m i a b c d g)){A:Nat}(f:A<4):w.cell? ⟨e,1+A,ao⟩=aj (.int .i64 (m.r A)):=by have:=h.cell (j:=1+A) (by omega);rw[this];match A,f with|0,_|1,_|2,_|3,_=>rfl
theorem YC{w:ai}{f i:Nat}{g a b c d:ah}{m:jq}(h:iO w f 249 12 (sx m g a b c d i)){A:Nat}(k:A<4)(x:Int):iO (w.setCell ⟨f,1+A,ao⟩ (.int .i64 x)) f 249 12 (sx {m with r:=upd m.r A x} g a b c d i):=by refine(h.setCell (1+A) (.int .i64 x)).congr λj e=>?_;match A,k with|0,_=>(match j,e with|0,_|1,_|2,_|3,_|4,_|5,_|6,_|7,_|8,_|9,_|10,_|11,_=>rfl)|1,_=>(match j,e with|0,_|1,_|2,_|3,_|4,_|5,_|6,_|7,_|8,_|9,_|10,_|11,_=>rfl)|2,_=>(match j,e with|0,_|1,_|2,_|3,_|4,_|5,_|6,_|7,_|8,_|9,_|10,_|11,_=>rfl)|3,_=>match j,e with|0,_|1,_|2,_|3,_|4,_|5,_|6,_|7,_|8,_|9,_|10,_|11,_=>rfl
theorem jR.jM{w w':ai}{B o i:Nat}{a b c d:ah}{n:Nat}{m:jq}(h:jR w B o i a b c d n m)(e:aE w.heap.size w w'):jR w' B o i a b c d n m:=by
 obtain⟨s,p,f,r,q⟩:=h.ex;refine⟨h.ge,⟨s,p.below e,?_,r,q.move (λg t=>e.block g (f.lt g t).2)⟩,h.mI.block (e.block i ?_)⟩;·rcases f.2 with v|⟨g,cap,j,rfl,k,l,u⟩;(·exact⟨f.1,.inl v⟩);·exact⟨f.1,.inr ⟨g,cap,j,rfl,k,by rw[e.block g (ax.1 l).1];exact l,u⟩⟩
 ·obtain⟨x,k,_⟩:=h.mI;exact k.lt
theorem jR.lt{w:ai}{B e g:Nat}{a b c d:ah}{n:Nat}{m:jq}(h:jR w B e g a b c d n m):e<w.heap.size:=let⟨_,f,_⟩:=h.ex;f.lt
theorem jR.ne{w:ai}{B e f:Nat}{a b c d:ah}{n:Nat}{m:jq}(h:jR w B e f a b c d n m):e≠f:=by obtain⟨p,k,_⟩:=h.ex;obtain⟨l,⟨es,o,g,_⟩,_⟩:=h.mI;obtain⟨j,i,_⟩:=k;rintro rfl;rw[i]at g;cases g
theorem jR.set{w:ai}{B f k:Nat}{a b c d:ah}{n:Nat}{m m':jq}(h:jR w B f k a b c d n m){j:Nat}{v:ah}(y:m'.ch=m.ch/\m'.hs=m.hs/\m'.vl=m.vl)(u:∀i,iO w f 249 12 (sx m i a b c d k)->iO (w.setCell ⟨f,j,ao⟩ v) f 249 12 (sx m' i a b c d k)):jR (w.setCell ⟨f,j,ao⟩ v) B f k a b c d n m':=by
 have p:=h.ne;obtain⟨i,D,o,l,x⟩:=h.ex;obtain⟨e1,e2,e3⟩:=y;refine⟨h.ge,⟨i,u i D,?_,l,x.move (λg z=>ay _ _ _ _ (λr=>l (by simp only at r;rw[z,r])))⟩,?_⟩;·rw[e1];rcases o.2 with A|⟨g,cap,q,rfl,C,t,s⟩;(·exact⟨o.1,.inl A⟩);·refine⟨o.1,.inr ⟨g,cap,q,rfl,C,?_,s⟩⟩;rw[ay _ _ _ _ (by simp;intro e;exact l (by simp[aD,e]))];exact t
 ·rw[e2,e3];exact h.mI.block (ay _ _ _ _ (by simp;exactλe=>p e.symm))
structure N9(w:ai)(N:Nat)(k A X C:Int):Prop where
 i0:w.cell? ⟨N,0,none⟩=some (.int .i64 k)
 i1:w.cell? ⟨N,1,none⟩=some (.int .i64 A)
 i2:w.cell? ⟨N,2,none⟩=some (.int .i64 X)
 i3:w.cell? ⟨N,3,none⟩=some (.int .i64 C)
theorem yR(w:ai)(k A X C:Int):N9 (w.alloc (.cells #[.int .i64 k,.int .i64 A,.int .i64 X,.int .i64 C] 161)) w.heap.size k A X C:=⟨by simp,by simp,by simp,by simp⟩
theorem jR.drew{w:ai}{B e f:Nat}{a b c d:ah}{n:Nat}{m:jq}(h:jR w B e f a b c d n m):jR w.drew B e f a b c d n m:=h.jM (an _ _).drew
theorem jR.ru{w:ai}{B e f:Nat}{a b c d:ah}{n:Nat}{m:jq}(h:jR w B e f a b c d n m):B<=w.heap.size:=by have:=h.lt;have:=h.ge;omega
theorem jR.Ca{w:ai}{B e f:Nat}{a b c d:ah}{n:Nat}{m:jq}(h:jR w B e f a b c d n m){A:Nat}(g:A<4)(x:Int):jR (w.setCell ⟨e,1+A,ao⟩ (.int .i64 x)) B e f a b c d n {m with r:=upd m.r A x}:=h.set ⟨rfl,rfl,rfl⟩ λj i=>YC i g x
theorem acJ(B g j:Nat)(a b c d:ah)(n:Nat)(m:jq)(w:ai)(h:jR w B g j a b c d n m)(k X C:Int)(A:Nat)(l:A<4):aQ aq 197 #[.pointer (aj ⟨g,0,ao⟩),.agg #[.int .i64 k,.int .i64 A,.int .i64 X,.int .i64 C]] w λe w'=>e=.returned (.tuple #[])/\jR w' B g j a b c d n {m with r:=upd m.r A X}/\aE B w w':=by
 have i:aE B w (w.alloc (.cells #[.int .i64 k,.int .i64 A,.int .i64 X,.int .i64 C] 161)):=(an _ _).alloc h.ru _;have f:=h.jM ((an _ _).alloc (au _) (.cells #[.int .i64 k,.int .i64 A,.int .i64 X,.int .i64 C] 161));obtain⟨i0,i1,i2,i3⟩:=yR w k A X C;have p:(A:Int)<4:=by omega
 have q:(0:Int)<=(A:Int):=by omega
 go_enter Tryz.func197,Tryz.ntmps197;go_wp2_with fail;clear h;generalize(w.alloc (.cells #[.int .i64 k,.int .i64 A,.int .i64 X,.int .i64 C] 161))=w1 at*;obtain⟨t,o,-⟩:=f.ex;have s:=o.frozen;have c1:=tQ o l;go_region;go_end0;exact⟨rfl,(f.Ca l X).drew,((i.setCell f.ge.1 _).drew)⟩
theorem acf(B j l:Nat)(a b c d:ah)(n:Nat)(m:jq)(w:ai)(h:jR w B j l a b c d n m)(k:Int)(A X C:Nat)(o:A<4)(p:X<4)(v:C<4):aQ aq 206 #[.pointer (aj ⟨j,0,ao⟩),.agg #[.int .i64 k,.int .i64 A,.int .i64 X,.int .i64 C]] w λe w'=>e=.returned (.tuple #[])/\jR w' B j l a b c d n {m with r:=upd m.r A (wrap64 (m.r X+m.r C))}/\aE B w w':=by
 have i:aE B w (w.alloc (.cells #[.int .i64 k,.int .i64 A,.int .i64 X,.int .i64 C] 161)):=(an _ _).alloc h.ru _;have f:=h.jM ((an _ _).alloc (au _) (.cells #[.int .i64 k,.int .i64 A,.int .i64 X,.int .i64 C] 161));obtain⟨i0,i1,i2,i3⟩:=yR w k A X C;have y:(A:Int)<4:=by omega
 have t:(0:Int)<=(A:Int):=by omega
 have s:(X:Int)<4:=by omega
 have q:(0:Int)<=(X:Int):=by omega
 have u:(C:Int)<4:=by omega
 have x:(0:Int)<=(C:Int):=by omega
 go_enter Tryz.func206,Tryz.ntmps206;go_wp2_with fail;clear h;generalize(w.alloc (.cells #[.int .i64 k,.int .i64 A,.int .i64 X,.int .i64 C] 161))=w1 at*;obtain⟨D,g,-⟩:=f.ex;have z:=g.frozen;have c1:=tQ g o;have c2:=tQ g p;have c3:=tQ g v;go_region;go_end0;exact⟨rfl,(f.Ca o _).drew,((i.setCell f.ge.1 _).drew)⟩
theorem ajs(B j l:Nat)(a b c d:ah)(n:Nat)(m:jq)(w:ai)(h:jR w B j l a b c d n m)(k:Int)(A X C:Nat)(o:A<4)(p:X<4)(v:C<4):aQ aq 207 #[.pointer (aj ⟨j,0,ao⟩),.agg #[.int .i64 k,.int .i64 A,.int .i64 X,.int .i64 C]] w λe w'=>e=.returned (.tuple #[])/\jR w' B j l a b c d n {m with r:=upd m.r A (wrap64 (m.r X-m.r C))}/\aE B w w':=by
 have i:aE B w (w.alloc (.cells #[.int .i64 k,.int .i64 A,.int .i64 X,.int .i64 C] 161)):=(an _ _).alloc h.ru _;have f:=h.jM ((an _ _).alloc (au _) (.cells #[.int .i64 k,.int .i64 A,.int .i64 X,.int .i64 C] 161));obtain⟨i0,i1,i2,i3⟩:=yR w k A X C;have y:(A:Int)<4:=by omega
 have t:(0:Int)<=(A:Int):=by omega
 have s:(X:Int)<4:=by omega
 have q:(0:Int)<=(X:Int):=by omega
 have u:(C:Int)<4:=by omega
 have x:(0:Int)<=(C:Int):=by omega
 go_enter Tryz.func207,Tryz.ntmps207;go_wp2_with fail;clear h;generalize(w.alloc (.cells #[.int .i64 k,.int .i64 A,.int .i64 X,.int .i64 C] 161))=w1 at*;obtain⟨D,g,-⟩:=f.ex;have z:=g.frozen;have c1:=tQ g o;have c2:=tQ g p;have c3:=tQ g v;go_region;go_end0;exact⟨rfl,(f.Ca o _).drew,((i.setCell f.ge.1 _).drew)⟩
def valOf(hs:Nat->Bool)(vl:Nat->Int)(k:Nat):Int:=if hs k then vl k else 0
theorem Ya{n:Nat}{w:ai}{b:Nat}{hs:Nat->Bool}{vl:Nat->Int}(h:mz n w b hs vl){k:Nat}(hk:k<100):(Instr.lookup 119 (.map (aj b)) (.int .i64 k) az).run aq w=.ok (.int .i64 (valOf hs vl k)) w:=by obtain⟨m,g,l⟩:=h;have d:keyOf aq 3 (.int .i64 (k:Int))=aj (.int .i64 (k:Int)):=keyOf_int_mk aA (yw hk);obtain⟨x,c,a,i⟩:=g.lookup_int xB aJ aA (H0 _) d;obtain⟨e,j⟩:=l k hk;rw[c];unfold valOf;cases f:hs k with|true=>have:=j f;rw[this]at a;rw[Fw a];rfl|false=>rw[f]at e;have:=atKey_of_not_has e (.lit (.int .i64 0));rw[this]at a;rw[<-Fw a];rfl
theorem aaP(B g l:Nat)(a b c d:ah)(n:Nat)(m:jq)(w:ai)(h:jR w B g l a b c d n m)(k C:Int)(A X:Nat)(p:A<4)(q:X<100):aQ aq 198 #[.pointer (aj ⟨g,0,ao⟩),.agg #[.int .i64 k,.int .i64 A,.int .i64 X,.int .i64 C]] w λe w'=>e=.returned (.tuple #[])/\jR w' B g l a b c d n {m with r:=upd m.r A (valOf m.hs m.vl X)}/\aE B w w':=by
 have i:aE B w (w.alloc (.cells #[.int .i64 k,.int .i64 A,.int .i64 X,.int .i64 C] 161)):=(an _ _).alloc h.ru _;have f:=h.jM ((an _ _).alloc (au _) (.cells #[.int .i64 k,.int .i64 A,.int .i64 X,.int .i64 C] 161));obtain⟨i0,i1,i2,i3⟩:=yR w k A X C;have u:(A:Int)<4:=by omega
 have t:(0:Int)<=(A:Int):=by omega
 go_enter Tryz.func198,Tryz.ntmps198;go_wp2_with fail;clear h;generalize(w.alloc (.cells #[.int .i64 k,.int .i64 A,.int .i64 X,.int .i64 C] 161))=w1 at*;obtain⟨v,o,-⟩:=f.ex;have y:=o.frozen;have c1:=tQ o p;have x:w1.cell? ⟨g,10,ao⟩=aj (.map (aj l)):=o.cell (j:=10) (by omega);have s:=Ya f.drew.mI q;go_region;go_end0;exact⟨rfl,(f.Ca p _).drew,((i.setCell f.ge.1 _).drew)⟩
theorem afs{w:ai}{e f:Nat}{g a b c d:ah}{m:jq}(h:iO w e 249 12 (sx m g a b c d f))(x:Nat):iO (w.setCell ⟨e,11,ao⟩ (.int .i64 x)) e 249 12 (sx {m with nx:=x} g a b c d f):=by refine(h.setCell 11 (.int .i64 x)).congr λj i=>?_;match j,i with|0,_|1,_|2,_|3,_|4,_|5,_|6,_|7,_|8,_|9,_|10,_|11,_=>rfl
theorem jR.Rx{w:ai}{B e f:Nat}{a b c d:ah}{n:Nat}{m:jq}(h:jR w B e f a b c d n m)(x:Nat):jR (w.setCell ⟨e,11,ao⟩ (.int .i64 x)) B e f a b c d n {m with nx:=x}:=h.set ⟨rfl,rfl,rfl⟩ λi g=>afs g x
theorem acF(B o p:Nat)(a b c d:ah)(n:Nat)(m:jq)(w:ai)(h:jR w B o p a b c d n m)(k:Int)(A X C:Nat)(q:A<4)(s:X<4):aQ aq 208 #[.pointer (aj ⟨o,0,ao⟩),.agg #[.int .i64 k,.int .i64 A,.int .i64 X,.int .i64 C]] w λe w'=>e=.returned (.tuple #[])/\jR w' B o p a b c d n {m with nx:=if m.r A<m.r X then C else m.nx}/\aE B w w':=by
 have i:aE B w (w.alloc (.cells #[.int .i64 k,.int .i64 A,.int .i64 X,.int .i64 C] 161)):=(an _ _).alloc h.ru _;have f:=h.jM ((an _ _).alloc (au _) (.cells #[.int .i64 k,.int .i64 A,.int .i64 X,.int .i64 C] 161));obtain⟨i0,i1,i2,i3⟩:=yR w k A X C;have y:(A:Int)<4:=by omega
 have u:(0:Int)<=(A:Int):=by omega
 have v:(X:Int)<4:=by omega
 have x:(0:Int)<=(X:Int):=by omega
 by_cases l:m.r A<m.r X;·rw[if_pos l];go_enter bq,bn;go_wp2_with fail;clear h;generalize(w.alloc (.cells #[.int .i64 k,.int .i64 A,.int .i64 X,.int .i64 C] 161))=w1 at*;obtain⟨t,g,-⟩:=f.ex;have z:=g.frozen;have c1:=tQ g q;have c2:=tQ g s;have D:w1.cell? ⟨o,11,ao⟩=aj (.int .i64 m.nx):=g.cell (j:=11) (by omega);go_region;go_wp2;go_end0;exact⟨rfl,(f.drew.Rx C),((i.drew.setCell f.ge.1 _))⟩
 ·rw[if_neg l];go_enter bq,bn;go_wp2_with fail;clear h;generalize(w.alloc (.cells #[.int .i64 k,.int .i64 A,.int .i64 X,.int .i64 C] 161))=w1 at*;obtain⟨t,g,-⟩:=f.ex;have c1:=tQ g q;have c2:=tQ g s;go_region;go_wp2;go_end0;exact⟨rfl,f.drew,i.drew⟩
theorem agI{w:ai}{e f:Nat}{i a b c d:ah}{m:jq}(h:iO w e 249 12 (sx m i a b c d f))(x:Nat):iO (((w.setCell ⟨e,0,ao⟩ (.bool ak)).setCell ⟨e,5,ao⟩ (.slice ao 0 0)).setCell ⟨e,11,ao⟩ (.int .i64 x)) e 249 12 (sx {m with ab:=ak,ch:=[],nx:=x} (.slice ao 0 0) a b c d f):=by refine(((h.setCell 0 (.bool ak)).setCell 5 (.slice ao 0 0)).setCell 11 (.int .i64 x)).congr λj g=>?_;match j,g with|0,_|1,_|2,_|3,_|4,_|5,_|6,_|7,_|8,_|9,_|10,_|11,_=>rfl
theorem jR.XN{w:ai}{B g i:Nat}{a b c d:ah}{n:Nat}{m:jq}(h:jR w B g i a b c d n m)(x:Nat):jR (((w.setCell ⟨g,0,ao⟩ (.bool ak)).setCell ⟨g,5,ao⟩ (.slice ao 0 0)).setCell ⟨g,11,ao⟩ (.int .i64 x)) B g i a b c d n {m with ab:=ak,ch:=[],nx:=x}:=by have f:=h.ne;obtain⟨o,j,k,l,_⟩:=h.ex;refine⟨h.ge,⟨_,agI j x,aU _ _ _ _,by simp[aD],qJ.nil _ _ _⟩,h.mI.block ?_⟩;rw[ay _ _ _ _ (by simp;exactλe=>f e.symm),ay _ _ _ _ (by simp;exactλe=>f e.symm),ay _ _ _ _ (by simp;exactλe=>f e.symm)]
theorem Su(B d k:Nat)(a b c:ah)(g:Option bA)(nc i:Nat)(n:Nat)(m:jq)(w:ai)(h:jR w B d k a b c (.slice g nc i) n m):aQ aq 195 #[.pointer (aj ⟨d,0,ao⟩)] w λe w'=>e=.returned (.tuple #[])/\jR w' B d k a b c (.slice g nc i) n {m with ab:=ak,ch:=[],nx:=nc}/\aE B w w':=by obtain⟨l,f,-⟩:=h.ex;have p:=f.frozen;have c0:w.cell? ⟨d,0,ao⟩=aj (.bool m.ab):=f.cell (j:=0) (by omega);have c5:w.cell? ⟨d,5,ao⟩=aj l:=f.cell (j:=5) (by omega);have c9:w.cell? ⟨d,9,ao⟩=aj (.slice g nc i):=f.cell (j:=9) (by omega);have o:w.cell? ⟨d,11,ao⟩=aj (.int .i64 m.nx):=f.cell (j:=11) (by omega);go_enter Tryz.func195,Tryz.ntmps195;go_wp2;go_end0;exact⟨rfl,h.XN nc,(((an _ _).setCell h.ge.1 _).setCell h.ge.1 _).setCell h.ge.1 _⟩
theorem Z5(B d g:Nat)(a b c:ah)(l:Option bA)(nc i:Nat)(n:Nat)(m:jq)(w:ai)(h:jR w B d g a b c (.slice l nc i) n m)(k A X C:Int):aQ aq 209 #[.pointer (aj ⟨d,0,ao⟩),.agg #[.int .i64 k,.int .i64 A,.int .i64 X,.int .i64 C]] w λe w'=>e=.returned (.tuple #[])/\jR w' B d g a b c (.slice l nc i) n {m with ab:=ak,ch:=[],nx:=nc}/\aE B w w':=by have f:aE B w (w.alloc (.cells #[.int .i64 k,.int .i64 A,.int .i64 X,.int .i64 C] 161)):=(an _ _).alloc h.ru _;have j:=h.jM ((an _ _).alloc (au _) (.cells #[.int .i64 k,.int .i64 A,.int .i64 X,.int .i64 C] 161));go_enter Tryz.func209,Tryz.ntmps209;go_wp2_with fail;refine(Su B d g a b c l nc i n m _ j).mono ?_;rintro e w1⟨rfl,o,p⟩;go_wp2_with fail;go_end0;exact⟨rfl,o,f.trans p⟩
theorem jR.mapped{w w':ai}{B s l:Nat}{a b c d:ah}{n v:Nat}{m:jq}{hs:Nat->Bool}{vl:Nat->Int}(h:jR w B s l a b c d n m)(H:mz v w' l hs vl)(t:∀k,k<w.heap.size->k≠l->w'.heap[k]?=w.heap[k]?):jR w' B s l a b c d v {m with hs:=hs,vl:=vl}:=by
 have r:=h.ne;obtain⟨z,D,o,E,F⟩:=h.ex;obtain⟨p,r1,r2,r3⟩:=D;have q:z.ownBlock≠aj l:=by intro e;rcases o.2 with⟨rfl,_⟩|⟨g,cap,y,rfl,x,f,u⟩;(·simp[aD]at e);·simp only[aD,aK]at e;subst e;obtain⟨C,⟨es,A,j,_⟩,_⟩:=h.mI;rw[f]at j;cases j
 refine⟨h.ge,⟨z,⟨p,by rw[t s (ax.1 r1).1 r];exact r1,r2,r3⟩,?_,E,F.move (λg i=>t g (o.lt g i).2 (λe=>q (by rw[i,e])))⟩,H⟩;rcases o.2 with G|⟨g,cap,y,rfl,x,f,u⟩;·exact⟨o.1,.inl G⟩
 ·refine⟨o.1,.inr ⟨g,cap,y,rfl,x,?_,u⟩⟩;rw[t g (ax.1 f).1];(·exact f);·rintro rfl;obtain⟨C,⟨es,A,j,_⟩,_⟩:=h.mI;rw[f]at j;cases j
theorem UC{w:ai}{f g:Nat}{k e a b c d:ah}{m:jq}(h:iO w f 249 12 (sx m k a b c d g))(l:List om):iO (w.setCell ⟨f,5,ao⟩ e) f 249 12 (sx {m with ch:=l} e a b c d g):=by refine(h.setCell 5 e).congr λj i=>?_;match j,i with|0,_|1,_|2,_|3,_|4,_|5,_|6,_|7,_|8,_|9,_|10,_|11,_=>rfl
theorem jR.changed{w w':ai}{B i j:Nat}{a b c d:ah}{n:Nat}{m:jq}{r f:ah}(h:jR w B i j a b c d n m)(I:iO w i 249 12 (sx m r a b c d j))(F:r.ownBlock≠aj i)(l:List om)(t:w'.ownsRow B 229 3 f l.length (pk l))(z:qJ w' f)(D:∀k,k<w.heap.size->aj k≠r.ownBlock->w'.heap[k]?=w.heap[k]?)(G:r.ownBlock≠aj j):jR (w'.setCell ⟨i,5,ao⟩ f) B i j a b c d n {m with ch:=l}:=by
 have y:=h.ne;have q:iO w' i 249 12 (sx m r a b c d j):=by obtain⟨p,r1,r2,r3⟩:=I;exact⟨p,by rw[D i (ax.1 r1).1 (λe=>F e.symm)];exact r1,r2,r3⟩
 have o:f.ownBlock≠aj i:=by intro e;rcases t.2 with⟨rfl,_⟩|⟨g,cap,A,rfl,s,x,C⟩;(·simp[aD]at e);·simp only[aD,aK]at e;subst e;obtain⟨p,r1,_⟩:=q;rw[x]at r1;cases r1
 have v:j<w.heap.size:=by obtain⟨J,s,_⟩:=h.mI;exact s.lt
 refine⟨h.ge,⟨f,UC q l,?_,o,z.move (λg u=>ay _ _ _ _ (λE=>o (by simp only at E;rw[u,E])))⟩,?_⟩;·rcases t.2 with H|⟨g,cap,A,rfl,s,x,C⟩;(·exact⟨t.1,.inl H⟩);·refine⟨t.1,.inr ⟨g,cap,A,rfl,s,?_,C⟩⟩;rw[ay _ _ _ _ (by simp;intro e;exact o (by simp[aD,e]))];exact x
 ·refine h.mI.block ?_;rw[ay _ _ _ _ (by simp;exactλe=>y e.symm)];exact D j v (λe=>G e.symm)
theorem jR.Zp{w:ai}{B k j:Nat}{a b c d:ah}{n:Nat}{m:jq}{f:ah}(h:jR w B k j a b c d n m)(l:w.ownsRow B 229 3 f m.ch.length (pk m.ch)):f.ownBlock≠aj j:=by
 intro e;rcases l.2 with⟨rfl,_⟩|⟨g,cap,r,rfl,p,o,t⟩;·simp[aD]at e
 ·simp only[aD,aK]at e;subst e;obtain⟨s,⟨es,q,i,_⟩,_⟩:=h.mI;rw[o]at i;cases i
theorem Tryz.Jv:(Tryz.prog.info? 229).map (λi=>(i.zero,i.size,i.bytes))=aj (aj (.agg #[.int .i64 0,.int .i64 0,.bool az]),3,24):=by kernel_rfl
theorem KR{n:Nat}{w w1:ai}{b:Nat}{hs:Nat->Bool}{vl:Nat->Int}{d:DataW Unit}(a:w.ownsMap aq 3 (plainElem aq 3) b n d)(i:KS d hs vl){k:Nat}{x:Int}(g:w1.ownsMap aq 3 (plainElem aq 3) b (n+1) (d.put (.int .i64 k) (.lit (.int .i64 x)))):mz (n+1) w1 b (upd hs k ak) (upd vl k x):=by
 refine⟨_,g,λj f=>?_⟩;by_cases e:j=k;·subst e;rw[upd_same,upd_same];exact⟨has_put_same a.isMap (by simp[WideAt.IsKeyLit]) _,λ_=>atKey_put_same a.isMap (by simp[WideAt.IsKeyLit]) _ _⟩
 ·(have c:(aV .i64 (j:Int))≠.int .i64 (k:Int):=by intro h;injection h with _ h;exact e (by omega));rw[jr _ _ e,jr _ _ e,has_put_other c,atKey_put_other c];exact i j f
theorem PT{n:Nat}{w w1:ai}{b:Nat}{hs:Nat->Bool}{vl:Nat->Int}{c:DataW Unit}(d:w.ownsMap aq 3 (plainElem aq 3) b n c)(i:KS c hs vl){k:Nat}(g:w1.ownsMap aq 3 (plainElem aq 3) b n (c.del (.int .i64 k))):mz n w1 b (upd hs k az) vl:=by
 refine⟨_,g,λj f=>?_⟩;by_cases e:j=k;·subst e;rw[upd_same];exact⟨has_del_same,λh=>by cases h⟩
 ·(have a:(aV .i64 (j:Int))≠.int .i64 (k:Int):=by intro h;injection h with _ h;exact e (by omega));rw[jr _ _ e,has_del_other a,atKey_del_other a];exact i j f
theorem sw{w:ai}{base:Nat}{e:bu}{b n:Nat}{v:ah}{xs:List ah}(h:w.ownsRow base e b v n xs):∃a c,v=.slice a n c:=by
 rcases h.2 with⟨rfl,rfl⟩|⟨g,cap,d,rfl,_⟩;·exact⟨ao,0,rfl⟩
 ·exact⟨_,cap,rfl⟩
theorem jR.behind{w w1:ai}{B p l:Nat}{a b c d:ah}{n E:Nat}{m:jq}{hs:Nat->Bool}{vl:Nat->Int}(h:jR w B p l a b c d n m)(H:mz E w1 l hs vl)(v:w.grownBy w1 (aj l)):∃f i,iO w1 p 249 12 (sx {m with hs:=hs,vl:=vl} (.slice f m.ch.length i) a b c d l)/\w1.ownsRow B 229 3 (.slice f m.ch.length i) m.ch.length (pk m.ch)/\(aG f m.ch.length i).ownBlock≠aj p/\(aG f m.ch.length i).ownBlock≠aj l/\jR w1 B p l a b c d E {m with hs:=hs,vl:=vl}/\aE B w w1/\w1.cell? ⟨p,5,ao⟩=aj (.slice f m.ch.length i)/\B<=w1.heap.size/\qJ w1 (.slice f m.ch.length i):=by
 have t:=h.mapped H (λk hk A=>v.block k hk (by simpa using A));obtain⟨z,G,x,C,D⟩:=h.ex;have o:=h.Zp x;have s:qJ w1 z:=D.move (λg u=>v.block g (x.lt g u).2 (λe=>o (by rw[u,e])));have r:w1.ownsRow B 229 3 z m.ch.length (pk m.ch):=x.kept v (.inr o);have q:iO w1 p 249 12 (sx {m with hs:=hs,vl:=vl} z a b c d l):=by obtain⟨y,r1,r2,r3⟩:=G;exact⟨y,by rw[v.block p (ax.1 r1).1 (by simpa using h.ne)];exact r1,r2,λj F=>by rw[r3 j F];match j,F with|0,_|1,_|2,_|3,_|4,_|5,_|6,_|7,_|8,_|9,_|10,_|11,_=>rfl⟩
 obtain⟨f,i,rfl⟩:=sw r;exact⟨f,i,q,r,C,o,t,(an _ _).grown v h.ru (λb I=>by cases I;exact h.ge.2),q.cell (j:=5) (by omega),t.ru,s⟩
theorem jR.Pc{w1 w2:ai}{B f s:Nat}{a b c d:ah}{n:Nat}{m:jq}{p:Option bA}{k:Nat}{w:ah}{o:Obj}{l:List om}(h:jR w1 B f s a b c d n m)(v:iO w1 f 249 12 (sx m (.slice p m.ch.length k) a b c d s))(A:w1.ownsRow B 229 3 (.slice p m.ch.length k) m.ch.length (pk m.ch))(i:(aG p m.ch.length k).ownBlock≠aj f)(y:(aG p m.ch.length k).ownBlock≠aj s)(r:w2.ownsRow B 229 3 w l.length (pk l))(x:qJ w2 w)(t:(w1.alloc o).grownBy w2 (aG p m.ch.length k).ownBlock):jR (w2.setCell ⟨f,5,ao⟩ w) B f s a b c d n {m with ch:=l}/\aE B w1 w2/\w2.cell? ⟨f,5,ao⟩=aj (.slice p m.ch.length k)/\w2.frozen? ⟨f,5,ao⟩=az:=by
 have q:=h.ru;have u:=h.jM ((an _ _).alloc (au _) o);have g:=v.alloc o;refine⟨u.changed g i l r x t.block y,((an _ _).alloc q _).grown t (by simp;omega) (λb z=>(A.lt b z).1),?_,?_⟩;·have:=g.cell (j:=5) (by omega);refine Eq.trans ?_ this;exact World.cell?_of_block (t.block f (by simp;exact bh v.lt) (λe=>i e.symm))
 ·rw[World.frozen?_of_block (t.block f (by simp;exact bh v.lt) (λe=>i e.symm))];exact g.frozen 5
theorem acr(w:ai)(a b c:ah):∀j u,[a,b,c][j]?=aj u->(w.alloc (.cells #[a,b,c] 229)).cell? ((⟨w.heap.size,0,ao⟩:bA).add j)=aj u:=by intro j u e;have d:j<3:=(List.getElem?_eq_some_iff.1 e).1;have:=(ky w [a,b,c] 229).cell (j:=j) d;rw[oN,bj,this];simp[lc,e]
theorem P8(w1:ai)(B:Nat)(l:List om)(n:Option bA)(m:Nat)(k:Nat)(x:Int)(q:Bool)(j:w1.ownsRow B 229 3 (.slice n l.length m) l.length (pk l))(i:qJ w1 (.slice n l.length m))(y:l.length<=1000)(s:B<=w1.heap.size):∃d c w2,(∀ty,(aH #[(200:bu),200] ty #[aG n l.length m,aG (aj (Addr.mk w1.heap.size 0 ao)) 1 1]).run aq (w1.alloc (.cells #[.int .i64 k,.int .i64 x,.bool q] 229))=.ok (.slice d (l.length+1) c) w2)/\w2.ownsRow B 229 3 (.slice d (l.length+1) c) (l++[om.mk k x q]).length (pk (l++[om.mk k x q]))/\(w1.alloc (.cells #[.int .i64 k,.int .i64 x,.bool q] 229)).grownBy w2 (aG n l.length m).ownBlock/\qJ w2 (.slice d (l.length+1) c):=by
 obtain⟨i0,hi,p,r,o⟩:=info_parts Tryz.Jv;obtain⟨z,w2,h,a,e,f⟩:=ahg (P:=aq) (w1.alloc (.cells #[.int .i64 k,.int .i64 x,.bool q] 229)) B 200 229 i0 (.agg #[.int .i64 0,.int .i64 0,.bool az]) 3 24 Tryz.underlying200 hi p r o rfl (by omega) (by intro u b;simp[Value.cells]at b;rcases b with rfl|rfl<;>trivial) _ _ _ (j.alloc _) (i.move (λg w=>Below.heap_alloc _ _ _ (j.lt g w).2)) ⟨w1.heap.size,0,ao⟩ 1 1 [.int .i64 k,.int .i64 x,.bool q] rfl (acr w1 _ _ _) (by intro u b;simp at b;rcases b with rfl|rfl|rfl<;>rfl) (by intro u b;simp at b;rcases b with rfl|rfl|rfl<;>trivial) (by omega) (by unfold maxLen;omega) (by omega) (by simp;omega);rcases a.2 with⟨rfl,t⟩|⟨g,cap,v,rfl,_⟩;·simp at t
 ·exact⟨_,cap,w2,h,by rw[YV,bg];exact a,e,f⟩
theorem TH(B C D:Nat)(a b c d:ah)(n:Nat)(m:jq)(w:ai)(h:jR w B C D a b c d n m)(k:Nat)(x:Int)(hk:k<100)(P:(aV .i64 x).wf=ak)(Y:n<=100000)(J:m.ch.length<=1000):aQ aq 200 #[.pointer (aj ⟨C,0,ao⟩),.int .i64 k,.int .i64 x] w λe w'=>e=.returned (.tuple #[])/\jR w' B C D a b c d (n+1) {m with hs:=upd m.hs k ak,vl:=upd m.vl k x,ch:=m.ch++[⟨k,x,az⟩]}/\aE B w w':=by
 obtain⟨i0,hi,T,R,U⟩:=info_parts Tryz.Jv;have y:keyOf aq 3 (.int .i64 (k:Int))=aj (.int .i64 (k:Int)):=keyOf_int_mk aA (yw hk);obtain⟨W,s,K⟩:=h.mI;have Q:w.cell? ⟨C,10,ao⟩=aj (.map (aj D)):=by obtain⟨X,M,-⟩:=h.ex;exact M.cell (j:=10) (by omega)
 go_enter Tryz.func200,Tryz.ntmps200;go_wp2_with(first|(at_mapUpdate;refine wpList_mapUpdate_own _ rfl _ _ _ 119 rfl 3 3 xB aJ _ D n _ rfl s (by unfold maxLen;omega) _ _ _ rfl rfl y _ [] (plainElem_int aA P) ?_;intro w1 i f;obtain⟨S,L,v,u,I,E,t,H,c5,A,q⟩:=h.behind (KR s K i) f;clear i f Q)|(at_builtin;obtain⟨N,O,w2,p,g,o,r⟩:=P8 w1 B m.ch S L k x az u q J A;obtain⟨G,F,V,ff⟩:=t.Pc (l:=m.ch++[⟨k,x,az⟩]) v u I E g r o;have z:=t.ge.1;refine Lj rfl _ _ 200 200 rfl _ _ rfl rfl _ _ p ?_;clear o g t u v c5 h r q p));go_end0;exact⟨rfl,G,(H.trans F).setCell z _⟩
theorem Rn{w w':ai}{b:Nat}(h:w.mapTurned w' b):w.grownBy w' (aj b):=by obtain⟨es,f,es',c,d,rfl⟩:=h;refine⟨rfl,rfl,rfl,by simp[Go.ChangeMaps.setBlock],λk hk a=>?_⟩;simp only[Go.ChangeMaps.setBlock];rw[Array.getElem?_setIfInBounds,if_neg (λe=>a (by rw[e]))]
theorem Tj(B C A:Nat)(a b c d:ah)(n:Nat)(m:jq)(w:ai)(h:jR w B C A a b c d n m)(k:Nat)(hk:k<100)(I:m.ch.length<=1000):aQ aq 202 #[.pointer (aj ⟨C,0,ao⟩),.int .i64 k] w λe w'=>e=.returned (.tuple #[])/\jR w' B C A a b c d n {m with hs:=upd m.hs k az,ch:=m.ch++[⟨k,0,ak⟩]}/\aE B w w':=by
 obtain⟨i0,hi,M,S,R⟩:=info_parts Tryz.Jv;have z:keyOf aq 3 (.int .i64 (k:Int))=aj (.int .i64 (k:Int)):=keyOf_int_mk aA (yw hk);obtain⟨L,s,P⟩:=h.mI;have O:w.cell? ⟨C,10,ao⟩=aj (.map (aj A)):=by obtain⟨V,J,-⟩:=h.ex;exact J.cell (j:=10) (by omega)
 go_enter Tryz.func202,Tryz.ntmps202;go_wp2_with(first|(at_delete;refine wpList_delete_own _ rfl _ _ 119 3 rfl 3 xB aJ _ A n L rfl s _ _ rfl z ?_;intro w1 o f;obtain⟨Q,T,v,t,E,D,u,G,c5,y,r⟩:=h.behind (PT s P o) (Rn f);clear o f O)|(at_builtin;obtain⟨K,N,w2,p,g,i,q⟩:=P8 w1 B m.ch Q T k 0 ak t r I y;obtain⟨H,F,U,ff⟩:=u.Pc (l:=m.ch++[⟨k,0,ak⟩]) v t E D g q i;have x:=u.ge.1;refine Lj rfl _ _ 200 200 rfl _ _ rfl rfl _ _ p ?_;clear i g u t v c5 h q r p));go_end0;exact⟨rfl,H,(G.trans F).setCell x _⟩
theorem VS(B f i:Nat)(a b c d:ah)(n:Nat)(m:jq)(w:ai)(h:jR w B f i a b c d n m)(k X C:Int)(A:Nat)(l:A<100)(p:m.ch.length<=1000):aQ aq 201 #[.pointer (aj ⟨f,0,ao⟩),.agg #[.int .i64 k,.int .i64 A,.int .i64 X,.int .i64 C]] w λe w'=>e=.returned (.tuple #[])/\jR w' B f i a b c d n {m with hs:=upd m.hs A az,ch:=m.ch++[⟨A,0,ak⟩]}/\aE B w w':=by have g:aE B w (w.alloc (.cells #[.int .i64 k,.int .i64 A,.int .i64 X,.int .i64 C] 161)):=(an _ _).alloc h.ru _;have j:=h.jM ((an _ _).alloc (au _) (.cells #[.int .i64 k,.int .i64 A,.int .i64 X,.int .i64 C] 161));go_enter Tryz.func201,Tryz.ntmps201;go_wp2_with fail;refine(Tj B f i a b c d n m _ j A l p).mono ?_;rintro e w1⟨rfl,o,q⟩;go_wp2_with fail;go_end0;exact⟨rfl,o,g.trans q⟩
theorem U4(B g j:Nat)(a b c d:ah)(n:Nat)(m:jq)(w:ai)(h:jR w B g j a b c d n m)(k C:Int)(A X:Nat)(u:A<100)(q:X<4)(t:(aV .i64 (m.r X)).wf=ak)(p:n<=100000)(s:m.ch.length<=1000):aQ aq 199 #[.pointer (aj ⟨g,0,ao⟩),.agg #[.int .i64 k,.int .i64 A,.int .i64 X,.int .i64 C]] w λe w'=>e=.returned (.tuple #[])/\jR w' B g j a b c d (n+1) {m with hs:=upd m.hs A ak,vl:=upd m.vl A (m.r X),ch:=m.ch++[⟨A,m.r X,az⟩]}/\aE B w w':=by
 have i:aE B w (w.alloc (.cells #[.int .i64 k,.int .i64 A,.int .i64 X,.int .i64 C] 161)):=(an _ _).alloc h.ru _;have f:=h.jM ((an _ _).alloc (au _) (.cells #[.int .i64 k,.int .i64 A,.int .i64 X,.int .i64 C] 161));obtain⟨i0,i1,i2,i3⟩:=yR w k A X C;have o:(X:Int)<4:=by omega
 have x:(0:Int)<=(X:Int):=by omega
 go_enter Tryz.func199,Tryz.ntmps199;go_wp2_with fail;clear h;generalize(w.alloc (.cells #[.int .i64 k,.int .i64 A,.int .i64 X,.int .i64 C] 161))=w1 at*;obtain⟨z,l,-⟩:=f.ex;have D:=l.frozen;have c2:=tQ l q;go_region_with(go_at_call 200;refine(TH B g j a b c d n m _ f.drew A (m.r X) u t p s).mono ?_;rintro e w2⟨rfl,v,y⟩);all_goals(go_end0;exact⟨rfl,v,(i.drew).trans y⟩)
def mJ(hs:Nat->Bool)(vl:Nat->Int)(lo:Nat):Nat->Int|0=>0|k+1=>if hs (lo+k)then wrap64 (mJ hs vl lo k+vl (lo+k))else mJ hs vl lo k
def n7(hs:Nat->Bool)(lo:Nat)(k:Nat):Nat:=ju (λj=>hs (lo+j)) k
theorem Ic{hs:Nat->Bool}{vl:Nat->Int}{lo k:Nat}(h:hs (lo+k)=ak):mJ hs vl lo (k+1)=wrap64 (mJ hs vl lo k+vl (lo+k)):=by simp[mJ,h]
theorem Iq{hs:Nat->Bool}{vl:Nat->Int}{lo k:Nat}(h:hs (lo+k)=az):mJ hs vl lo (k+1)=mJ hs vl lo k:=by simp[mJ,h]
theorem OG(hs:Nat->Bool)(vl:Nat->Int)(lo k:Nat):(aV .i64 (mJ hs vl lo k)).wf=ak:=by induction k with|zero=>rfl|succ k a=>unfold mJ;split;(·exact wrap64_wf _);·exact a
theorem ado{n:Nat}{w:ai}{b:Nat}{hs:Nat->Bool}{vl:Nat->Int}(h:mz n w b hs vl){k:Nat}(hk:k<100):(Instr.lookup 119 (.map (aj b)) (.int .i64 k) ak).run aq w=.ok (.tuple #[.int .i64 (valOf hs vl k),.bool (hs k)]) w:=by obtain⟨o,i,m⟩:=h;have c:keyOf aq 3 (.int .i64 (k:Int))=aj (.int .i64 (k:Int)):=keyOf_int_mk aA (yw hk);obtain⟨v,ps,a,l⟩:=i.look_ok xB aJ (H0 _) (plainElem_int aA (show(aV .i64 0).wf=ak by decide)) c;obtain⟨x,rfl,d,j⟩:=plainElem_int_inv aA l;simp only[Prod.mk.injEq]at d;obtain⟨e,g⟩:=m k hk;rw[a,e];unfold valOf;cases f:hs k with|true=>have:=g f;rw[this]at d;rw[<-Fw d.1];rfl|false=>rw[f]at e;have:=atKey_of_not_has e (.lit (.int .i64 0));rw[this]at d;rw[<-Fw d.1];rfl
theorem Rs(B E J:Nat)(a b c d:ah)(n:Nat)(m:jq)(w:ai)(h:jR w B E J a b c d n m)(ng:Nat)(g:Nat->Int)(N:iT w c 2 ng g)(j lo hi:Nat)(Z:j<ng)(L:g (2*j)=lo)(H:g (2*j+1)=hi)(O:lo<=hi)(V:hi<=99):aQ aq 204 #[.pointer (aj ⟨E,0,ao⟩),.int .i64 j] w λe w'=>e=.returned (.tuple #[.int .i64 (mJ m.hs m.vl lo (hi+1-lo)),.int .i64 (n7 m.hs lo (hi+1-lo):Nat)])/\jR w' B E J a b c d n m/\aE w.heap.size w w':=by
 obtain⟨Y,z,rfl,Q,D⟩:=id N;obtain⟨G,go,rfl,S,f⟩:=D (by omega);have e0:w.cell? ⟨G,go+j*2,ao⟩=aj (.int .i64 lo):=by rw[f _ (by omega),<-L,bw]
 have e1:w.cell? ⟨G,go+j*2+1,ao⟩=aj (.int .i64 hi):=by rw[Nat.add_assoc,f _ (by omega),<-H,bw]
 obtain⟨R,F,-⟩:=h.ex;have P:w.cell? ⟨E,8,ao⟩=aj (.slice (aj ⟨G,go,ao⟩) ng z):=F.cell (j:=8) (by omega);have T:(j:Int)<(ng:Int):=by omega
 have U:(0:Int)<=(j:Int):=by omega
 have C:aE w.heap.size w (w.alloc (.cells #[.int .i64 lo,.int .i64 hi] 159)):=(an _ _).alloc (au _) _;have t:=h.jM C;clear f D N F;go_enter Tryz.func204,Tryz.ntmps204;go_wp2_with fail;have r1:(w.alloc (.cells #[.int .i64 lo,.int .i64 hi] 159)).cell? ⟨w.heap.size,1,ao⟩=aj (.int .i64 hi):=by simp
 have cm:(w.alloc (.cells #[.int .i64 lo,.int .i64 hi] 159)).cell? ⟨E,10,ao⟩=aj (.map (aj J)):=by obtain⟨R,F,-⟩:=t.ex;exact F.cell (j:=10) (by omega)
 have x:=t.mI;clear e0 e1 P;generalize(w.alloc (.cells #[.int .i64 lo,.int .i64 hi] 159))=w1 at*;go_loopw[4,5,7](λs q i wr=>∃k:Nat,lo<=k/\k<=hi+1/\i=.int .i64 k/\s=.int .i64 (mJ m.hs m.vl lo (k-lo))/\q=.int .i64 (n7 m.hs lo (k-lo):Nat)/\w1=wr)(λ_ _ i _=>hi+1-(intOf i).toNat);case atStart=>exact⟨lo,au _,by omega,rfl,by simp[mJ],by simp[n7,ju],rfl⟩
 case round=>obtain⟨k,u,hk,rfl,rfl,rfl,rfl⟩:=hrel;(have o:Hid (k+1-lo=(k-lo)+1):=by show _=_;omega);(have l:Hid (lo+(k-lo)=k):=by show _=_;omega);by_cases W:k<=hi;(·have u:=ado x (k:=k) (by omega);(have y:(k:Int)<=(hi:Int):=by omega);have M:=oY (λj=>m.hs (lo+j)) (k-lo);cases r:m.hs k with|false=>have I:Hid (_=_):=Iq (hs:=m.hs) (vl:=m.vl) (lo:=lo) (k:=k-lo) (by rw[l.out];exact r);have K:Hid (_=_):=ur (p:=λj=>m.hs (lo+j)) (k:=k-lo) (by show m.hs (lo+(k-lo))=az;rw[l.out];exact r);rw[r]at u;clear r;go_wp2;go_roundw;(case rel=>exact⟨k+1,by omega,by omega,by go_num,by rw[o.out,I.out],by rw[o.out];unfold n7;rw[K.out],trivial⟩);case measure=>simp[intOf];omega|true=>have I:Hid (_=_):=Ic (hs:=m.hs) (vl:=m.vl) (lo:=lo) (k:=k-lo) (by rw[l.out];exact r);have K:Hid (_=_):=sM (p:=λj=>m.hs (lo+j)) (k:=k-lo) (by show m.hs (lo+(k-lo))=ak;rw[l.out];exact r);rw[r,show valOf m.hs m.vl k=m.vl k by simp[valOf,r]]at u;clear r;go_wp2;go_roundw;(case rel=>exact⟨k+1,by omega,by omega,by go_num,by rw[o.out,I.out,l.out],by rw[o.out];unfold n7 at*;rw[K.out,Go.IntWalk.wrap64_in _ (by omega)];simp,trivial⟩);case measure=>simp[intOf];omega);·(have A:k=hi+1:=by omega);(have y:¬(k:Int)<=(hi:Int):=by omega);have X:Hid (k=hi+1):=A;clear A;go_wp2;exact bodyPost_ret (v:=.tuple #[.int .i64 (mJ m.hs m.vl lo (k-lo)),.int .i64 (n7 m.hs lo (k-lo):Nat)]) (by simp[results,Tryz.results204,go_sem]) rfl ⟨by rw[X.out],t,C⟩
theorem TR(B j u:Nat)(a b c d:ah)(n:Nat)(m:jq)(w:ai)(h:jR w B j u a b c d n m)(k C:Int)(A X lo hi ng:Nat)(g:Nat->Int)(y:iT w c 2 ng g)(z:A<4)(H:X<ng)(s:g (2*X)=lo)(v:g (2*X+1)=hi)(t:lo<=hi)(o:hi<=99):aQ aq 203 #[.pointer (aj ⟨j,0,ao⟩),.agg #[.int .i64 k,.int .i64 A,.int .i64 X,.int .i64 C]] w λe w'=>e=.returned (.tuple #[])/\jR w' B j u a b c d n {m with r:=upd m.r A (mJ m.hs m.vl lo (hi+1-lo))}/\aE B w w':=by
 have l:aE B w (w.alloc (.cells #[.int .i64 k,.int .i64 A,.int .i64 X,.int .i64 C] 161)):=(an _ _).alloc h.ru _;have f:=h.jM ((an _ _).alloc (au _) (.cells #[.int .i64 k,.int .i64 A,.int .i64 X,.int .i64 C] 161));have q:=y.alloc (.cells #[.int .i64 k,.int .i64 A,.int .i64 X,.int .i64 C] 161);obtain⟨i0,i1,i2,i3⟩:=yR w k A X C;have I:(A:Int)<4:=by omega
 have F:(0:Int)<=(A:Int):=by omega
 have J:w.heap.size<(w.alloc (.cells #[.int .i64 k,.int .i64 A,.int .i64 X,.int .i64 C] 161)).heap.size:=by simp
 go_enter Tryz.func203,Tryz.ntmps203;go_wp2_with fail;clear h y;generalize(w.alloc (.cells #[.int .i64 k,.int .i64 A,.int .i64 X,.int .i64 C] 161))=w1 at*;obtain⟨N,G,-⟩:=f.ex;have M:=G.frozen;go_region_with(go_at_call 204;refine(Rs B j u a b c d n m w1.drew f.drew ng g (q.below (an _ _).drew) X lo hi H s v t o).mono ?_;rintro e w2⟨rfl,x,D⟩;have L:w2.cell? ⟨w.heap.size,1,ao⟩=aj (.int .i64 A):=(by rw[D.cell (p:=⟨w.heap.size,1,ao⟩) J];exact i1);obtain⟨E,i,-⟩:=x.ex;have c2:=tQ i z;have K:=i.frozen);all_goals(go_end0;exact⟨rfl,x.Ca z _,((l.drew).trans (D.mono f.drew.ru)).setCell f.ge.1 _⟩)
theorem St(B j u:Nat)(a b c d:ah)(n:Nat)(m:jq)(w:ai)(h:jR w B j u a b c d n m)(k C:Int)(A X lo hi ng:Nat)(g:Nat->Int)(y:iT w c 2 ng g)(z:A<4)(H:X<ng)(s:g (2*X)=lo)(v:g (2*X+1)=hi)(t:lo<=hi)(o:hi<=99):aQ aq 205 #[.pointer (aj ⟨j,0,ao⟩),.agg #[.int .i64 k,.int .i64 A,.int .i64 X,.int .i64 C]] w λe w'=>e=.returned (.tuple #[])/\jR w' B j u a b c d n {m with r:=upd m.r A (n7 m.hs lo (hi+1-lo):Nat)}/\aE B w w':=by
 have l:aE B w (w.alloc (.cells #[.int .i64 k,.int .i64 A,.int .i64 X,.int .i64 C] 161)):=(an _ _).alloc h.ru _;have f:=h.jM ((an _ _).alloc (au _) (.cells #[.int .i64 k,.int .i64 A,.int .i64 X,.int .i64 C] 161));have q:=y.alloc (.cells #[.int .i64 k,.int .i64 A,.int .i64 X,.int .i64 C] 161);obtain⟨i0,i1,i2,i3⟩:=yR w k A X C;have I:(A:Int)<4:=by omega
 have F:(0:Int)<=(A:Int):=by omega
 have J:w.heap.size<(w.alloc (.cells #[.int .i64 k,.int .i64 A,.int .i64 X,.int .i64 C] 161)).heap.size:=by simp
 go_enter Tryz.func205,Tryz.ntmps205;go_wp2_with fail;clear h y;generalize(w.alloc (.cells #[.int .i64 k,.int .i64 A,.int .i64 X,.int .i64 C] 161))=w1 at*;obtain⟨N,G,-⟩:=f.ex;have M:=G.frozen;go_region_with(go_at_call 204;refine(Rs B j u a b c d n m w1.drew f.drew ng g (q.below (an _ _).drew) X lo hi H s v t o).mono ?_;rintro e w2⟨rfl,x,D⟩;have L:w2.cell? ⟨w.heap.size,1,ao⟩=aj (.int .i64 A):=(by rw[D.cell (p:=⟨w.heap.size,1,ao⟩) J];exact i1);obtain⟨E,i,-⟩:=x.ex;have c2:=tQ i z;have K:=i.frozen);all_goals(go_end0;exact⟨rfl,x.Ca z _,((l.drew).trans (D.mono f.drew.ru)).setCell f.ge.1 _⟩)
def rv(t:iV)(X:Int):Nat:=(t.g (2*X.toNat)).toNat
def uM(t:iV)(X:Int):Nat:=(t.g (2*X.toNat+1)).toNat
def rO(t:iV)(K A X C:Int)(m:jq):jq:=if K=1 then{m with r:=upd m.r A.toNat X}else if K=2 then{m with r:=upd m.r A.toNat (valOf m.hs m.vl X.toNat)}else if K=3 then{m with hs:=upd m.hs A.toNat ak,vl:=upd m.vl A.toNat (m.r X.toNat),ch:=m.ch++[⟨A.toNat,m.r X.toNat,az⟩]}else if K=4 then{m with hs:=upd m.hs A.toNat az,ch:=m.ch++[⟨A.toNat,0,ak⟩]}else if K=5 then{m with r:=upd m.r A.toNat (mJ m.hs m.vl (rv t X) (uM t X+1-rv t X))}else if K=6 then{m with r:=upd m.r A.toNat (n7 m.hs (rv t X) (uM t X+1-rv t X):Nat)}else if K=7 then{m with r:=upd m.r A.toNat (wrap64 (m.r X.toNat+m.r C.toNat))}else if K=8 then{m with r:=upd m.r A.toNat (wrap64 (m.r X.toNat-m.r C.toNat))}else if K=9 then{m with nx:=if m.r A.toNat<m.r X.toNat then C.toNat else m.nx}else{m with ab:=ak,ch:=[],nx:=t.nc}
def mS(t:iV)(m:jq):jq:=rO t (t.c (4*m.nx)) (t.c (4*m.nx+1)) (t.c (4*m.nx+2)) (t.c (4*m.nx+3)) {m with nx:=m.nx+1}
def runM(t:iV):Nat->jq->jq|0,m=>m|f+1,m=>if m.nx<t.nc then runM t f (mS t m)else m
def A9(K:Int):FuncId:=if K=1 then 197 else if K=2 then 198 else if K=3 then 199 else if K=4 then 201 else if K=5 then 203 else if K=6 then 205 else if K=7 then 206 else if K=8 then 207 else if K=9 then 208 else 209
theorem mj{n lo hi:Int}(h:jf n lo hi=ak)(a:0<=lo):∃k:Nat,n=k/\lo<=k/\(k:Int)<=hi:=by simp only[jf,ae,decide_eq_true_eq]at h;exact⟨n.toNat,by omega,by omega,by omega⟩
theorem xo{n:Nat}{f:Nat->Int}{x:Int}(h:hasB n f x=ak)(hk:oG n f=ak):∃k:Nat,x=k/\k<100:=by obtain⟨i,hi,a⟩:=uC h;simp only[oG,ae]at hk;have:=nA hk.2 hi;rw[beq_iff_eq]at a;rw[a]at this;obtain⟨k,rfl,_,b⟩:=mj this (ar 0);exact⟨k,rfl,by omega⟩
structure qo(t:iV):Prop where
 ok:lX t=true
 wf:∀j,j<t.nc*4->(aV .i64 (t.c j)).wf=true
theorem qo.keys{t:iV}(h:qo t):oG t.nr t.r=ak/\oG t.nw t.wr=ak/\sD t.ng t.g=ak/\t.nc<=16/\jU (ry t) t.nc=ak:=by have:=h.ok;simp only[lX,xn,ae,decide_eq_true_eq]at this;exact⟨this.1.1.1,this.1.1.2,this.1.2,this.2.1,this.2.2⟩
theorem qo.range{t:iV}(h:qo t){j:Nat}(b:j<t.ng):∃lo hi:Nat,t.g (2*j)=lo/\t.g (2*j+1)=hi/\lo<=hi/\hi<=99:=by have:=h.keys.2.2.1;simp only[sD,ae]at this;have:=nA this.2 b;simp only[qp,ae,decide_eq_true_eq]at this;obtain⟨⟨a,c⟩,f⟩:=this;obtain⟨lo,e1,d,e⟩:=mj a (ar 0);obtain⟨hi,e2,b1,b2⟩:=mj c (ar 0);exact⟨lo,hi,e1,e2,by omega,by omega⟩
def PK(m:jq):Prop:=∀i,i<4->(aV .i64 (m.r i)).wf=ak
theorem SN(t:iV)(T:qo t)(B l o:Nat)(a b c d:ah)(n:Nat)(m:jq)(w:ai)(h:jR w B l o a b c d n m)(u:mr w a b c d t)(I:PK m)(J:n<=100000)(D:m.ch.length<=1000)(at':Nat)(y:at'<t.nc):aQ aq (A9 (t.c (4*at'))) #[.pointer (aj ⟨l,0,ao⟩),.agg #[.int .i64 (t.c (4*at')),.int .i64 (t.c (4*at'+1)),.int .i64 (t.c (4*at'+2)),.int .i64 (t.c (4*at'+3))]] w λe w'=>e=.returned (.tuple #[])/\jR w' B l o a b c d (n+1) (rO t (t.c (4*at')) (t.c (4*at'+1)) (t.c (4*at'+2)) (t.c (4*at'+3)) m)/\aE B w w':=by
 obtain⟨k1,k2,k3,k4,k5⟩:=T.keys;have i:=nA k5 y;unfold ry at i;have L:=T.wf (4*at'+2) (by omega);generalize t.c (4*at')=K at*;generalize t.c (4*at'+1)=A at*;generalize t.c (4*at'+2)=X at*;generalize t.c (4*at'+3)=C at*;unfold nW at i;have up:∀{w':ai}{m':jq},jR w' B l o a b c d n m'->jR w' B l o a b c d (n+1) m':=λh=>⟨h.ge,h.ex,h.mI.step⟩;by_cases e1:K=1;·subst e1;rw[if_pos rfl]at i;obtain⟨A,rfl,_,p⟩:=mj i (ar 0);refine(acJ B l o a b c d n m w h 1 X C A (by omega)).mono λe w' f=>⟨f.1,up ?_,f.2.2⟩;simpa[rO]using f.2.1
 by_cases e2:K=2;·subst e2;rw[if_neg (by omega),if_pos rfl,ae,aI]at i;obtain⟨A,rfl,_,p⟩:=mj i.1 (ar 0);obtain⟨X,rfl,q⟩:∃k:Nat,X=k/\k<100:=i.2.elim (λh=>xo h k1) (λh=>xo h k2);refine(aaP B l o a b c d n m w h 2 C A X (by omega) q).mono λe w' f=>⟨f.1,up ?_,f.2.2⟩;simpa[rO]using f.2.1
 by_cases e3:K=3;·subst e3;rw[if_neg (by omega),if_neg (by omega),if_pos rfl,ae]at i;obtain⟨A,rfl,p⟩:=xo i.1 k2;obtain⟨X,rfl,_,q⟩:=mj i.2 (ar 0);refine(U4 B l o a b c d n m w h 3 C A X p (by omega) (I X (by omega)) J D).mono λe w' f=>⟨f.1,?_,f.2.2⟩;simpa[rO]using f.2.1
 by_cases z:K=4;·subst z;rw[if_neg (by omega),if_neg (by omega),if_neg (by omega),if_pos rfl]at i;obtain⟨A,rfl,p⟩:=xo i k2;refine(VS B l o a b c d n m w h 4 X C A p D).mono λe w' f=>⟨f.1,up ?_,f.2.2⟩;simpa[rO]using f.2.1
 by_cases e5:K=5;·subst e5;rw[if_neg (by omega),if_neg (by omega),if_neg (by omega),if_neg (by omega),if_pos (.inl rfl),ae]at i;obtain⟨A,rfl,_,p⟩:=mj i.1 (ar 0);obtain⟨X,rfl,_,q⟩:=mj i.2 (ar 0);obtain⟨lo,hi,r,s,x,v⟩:=T.range (j:=X) (by omega);refine(TR B l o a b c d n m w h 5 C A X lo hi t.ng t.g u.g (by omega) (by omega) r s x v).mono λe w' f=>⟨f.1,up ?_,f.2.2⟩;simpa[rO,rv,uM,r,s]using f.2.1
 by_cases e6:K=6;·subst e6;rw[if_neg (by omega),if_neg (by omega),if_neg (by omega),if_neg (by omega),if_pos (.inr rfl),ae]at i;obtain⟨A,rfl,_,p⟩:=mj i.1 (ar 0);obtain⟨X,rfl,_,q⟩:=mj i.2 (ar 0);obtain⟨lo,hi,r,s,x,v⟩:=T.range (j:=X) (by omega);refine(St B l o a b c d n m w h 6 C A X lo hi t.ng t.g u.g (by omega) (by omega) r s x v).mono λe w' f=>⟨f.1,up ?_,f.2.2⟩;simpa[rO,rv,uM,r,s]using f.2.1
 by_cases M:K=7;·subst M;rw[if_neg (by omega),if_neg (by omega),if_neg (by omega),if_neg (by omega),if_neg (by omega),if_pos (.inl rfl),ae,ae]at i;obtain⟨A,rfl,_,p⟩:=mj i.1.1 (ar 0);obtain⟨X,rfl,_,q⟩:=mj i.1.2 (ar 0);obtain⟨C,rfl,_,F⟩:=mj i.2 (ar 0);refine(acf B l o a b c d n m w h 7 A X C (by omega) (by omega) (by omega)).mono λe w' f=>⟨f.1,up ?_,f.2.2⟩;simpa[rO]using f.2.1
 by_cases H:K=8;·subst H;rw[if_neg (by omega),if_neg (by omega),if_neg (by omega),if_neg (by omega),if_neg (by omega),if_pos (.inr rfl),ae,ae]at i;obtain⟨A,rfl,_,p⟩:=mj i.1.1 (ar 0);obtain⟨X,rfl,_,q⟩:=mj i.1.2 (ar 0);obtain⟨C,rfl,_,F⟩:=mj i.2 (ar 0);refine(ajs B l o a b c d n m w h 8 A X C (by omega) (by omega) (by omega)).mono λe w' f=>⟨f.1,up ?_,f.2.2⟩;simpa[rO]using f.2.1
 by_cases E:K=9;·subst E;rw[if_neg (by omega),if_neg (by omega),if_neg (by omega),if_neg (by omega),if_neg (by omega),if_neg (by omega),if_pos rfl,ae,ae]at i;obtain⟨A,rfl,_,p⟩:=mj i.1.1 (ar 0);obtain⟨X,rfl,_,q⟩:=mj i.1.2 (ar 0);obtain⟨C,rfl,_,F⟩:=mj i.2 (by omega);refine(acF B l o a b c d n m w h 9 A X C (by omega) (by omega)).mono λe w' f=>⟨f.1,up ?_,f.2.2⟩;simpa[rO]using f.2.1
 ·rw[if_neg e1,if_neg e2,if_neg e3,if_neg z,if_neg (by omega),if_neg (by omega),if_neg E,beq_iff_eq]at i;subst i;obtain⟨G,N,rfl,-⟩:=u.c;refine(Z5 B l o a b c G t.nc N n m w h 10 A X C).mono λe w' f=>⟨f.1,up ?_,f.2.2⟩;simpa[rO]using f.2.1
end
section
open Go.RowKit
def zS(l:List (Nat×Int)):(Nat->Bool)×(Nat->Int):=l.foldl (λs p=>(upd s.1 p.1 ak,upd s.2 p.1 p.2)) (λ_=>az,λ_=>0)
def ug(l:List (Nat×Int)):jq:=⟨az,λ_=>0,[],(zS l).1,(zS l).2,0⟩
def mn(t:iV)(l:List (Nat×Int)):jq:=runM t t.nc (ug l)
theorem adg{l:List (Nat×Int)}{k:Nat}{p:Nat×Int}(h:l[k]?=aj p):ug (l.take (k+1))={ug (l.take k)with hs:=upd (ug (l.take k)).hs p.1 ak,vl:=upd (ug (l.take k)).vl p.1 p.2}:=by
 have:zS (l.take (k+1))=(upd (zS (l.take k)).1 p.1 ak,upd (zS (l.take k)).2 p.1 p.2):=by rw[List.take_add_one,h];simp[zS,aW]
 simp[ug,this]
abbrev ji(x:Int):Prop:=(aV .i64 x).wf=ak
structure qG(t:iV)(m:jq):Prop where
 NZ:PK m
 aeW:∀k,m.hs k=true->ji (m.vl k)
 nx:m.nx<=t.nc
 len:m.ch.length<=m.nx
 keys:∀c∈m.ch,c.key<100/\ji c.val/\(c.del=true->c.val=0)
theorem Wz{r:Nat->Int}(h:∀i,i<4->ji (r i))(A:Nat){x:Int}(a:ji x):∀i,i<4->ji (upd r A x i):=by
 intro i hi;unfold upd;split;·exact a
 ·exact h i hi
theorem H4{n:Nat}(h:n<=1000):ji (n:Int):=WalkArith.wf_i64 (by omega)
theorem ais{hs:Nat->Bool}{vl:Nat->Int}(h:∀k,hs k=ak->ji (vl k))(k:Nat):ji (valOf hs vl k):=by
 unfold valOf;split;·exact h k (by assumption)
 ·exact H4 (n:=0) (by omega)
theorem MC(t:iV){l:List (Nat×Int)}(h:∀p∈l,ji p.2):qG t (ug l):=by
 refine⟨λi _=>H4 (n:=0) (by omega),?_,bd _,bd _,by simp[ug]⟩;have:∀(l:List (Nat×Int))(s:(Nat->Bool)×(Nat->Int)),(∀k,s.1 k=ak->ji (s.2 k))->(∀p∈l,ji p.2)->∀k,(l.foldl (λs p=>(upd s.1 p.1 ak,upd s.2 p.1 p.2)) s).1 k=ak->ji ((l.foldl (λs p=>(upd s.1 p.1 ak,upd s.2 p.1 p.2)) s).2 k):=by intro l;induction l with|nil=>intro s hs _ k hk;exact hs k hk|cons p l d=>intro s hs b;refine d _ ?_ (λq c=>b q (by simp[c]));intro k hk;simp only[upd]at hk⊢;split;(·exact b p (by simp));·rename_i a;rw[if_neg a]at hk;exact hs k hk
 exact this l _ (λk hk=>by cases hk) h
theorem qG.step{t:iV}(T:qo t){m:jq}(h:qG t m)(d:m.nx<t.nc):qG t (mS t m)/\m.nx<(mS t m).nx:=by
 obtain⟨k1,k2,k3,k4,k5⟩:=T.keys;have b:=nA k5 d;unfold ry at b;have u:=T.wf (4*m.nx+2) (by omega);unfold mS;generalize t.c (4*m.nx)=K at*;generalize t.c (4*m.nx+1)=A at*;generalize t.c (4*m.nx+2)=X at*;generalize t.c (4*m.nx+3)=C at*;unfold nW at b;unfold rO;obtain⟨i,g,H,G,y⟩:=h;have a:∀(A:Nat){x:Int},ji x->qG t {m with nx:=m.nx+1,r:=upd m.r A x}/\m.nx<m.nx+1:=λA x f=>⟨⟨Wz i A f,g,d,by show m.ch.length<=m.nx+1;omega,y⟩,bm _⟩;have l:∀(hs:Nat->Bool)(vl:Nat->Int)(c:om),(∀k,hs k=ak->ji (vl k))->c.key<100/\ji c.val/\(c.del=ak->c.val=0)->qG t {m with nx:=m.nx+1,hs:=hs,vl:=vl,ch:=m.ch++[c]}/\m.nx<m.nx+1:=λhs vl c p o=>⟨⟨i,p,d,by show(m.ch++[c]).length<=m.nx+1;simp;omega,λx f=>by rcases aM.1 f with f|f;(·exact y x f);·simp only[aN]at f;subst f;exact o⟩,bm _⟩;by_cases e1:K=1;·rw[if_pos e1];exact a _ u
 rw[if_neg e1];rw[if_neg e1]at b;by_cases e2:K=2;·rw[if_pos e2];exact a _ (ais g _)
 rw[if_neg e2];rw[if_neg e2]at b;by_cases e3:K=3;·rw[if_pos e3];rw[if_pos e3,ae]at b;obtain⟨A,rfl,w⟩:=xo b.1 k2;obtain⟨X,rfl,_,E⟩:=mj b.2 (ar 0);have f:ji (m.r X):=i X (by omega);refine l _ _ ⟨A,m.r X,az⟩ (λk hk=>?_) ⟨w,f,λe=>by cases e⟩;simp only[aF]at hk⊢;unfold upd at hk⊢;split;(·exact f);·rename_i v;rw[if_neg v]at hk;exact g k hk
 rw[if_neg e3];rw[if_neg e3]at b;by_cases q:K=4;·rw[if_pos q];rw[if_pos q]at b;obtain⟨A,rfl,w⟩:=xo b k2;refine l _ m.vl ⟨A,0,ak⟩ (λk hk=>g k ?_) ⟨w,H4 (n:=0) (by omega),λ_=>rfl⟩;unfold upd at hk;split at hk;(·cases hk);·exact hk
 rw[if_neg q];rw[if_neg q]at b;by_cases e5:K=5;·rw[if_pos e5];exact a _ (OG _ _ _ _)
 rw[if_neg e5];by_cases e6:K=6;·rw[if_pos e6];rw[if_pos (.inr e6),ae]at b;obtain⟨X,rfl,_,E⟩:=mj b.2 (ar 0);obtain⟨lo,hi,p,o,J,I⟩:=T.range (j:=X) (by omega);refine a _ (H4 ?_);refine aY (oY _ _) ?_;simp[rv,uM,p,o];omega
 rw[if_neg e6];rw[if_neg (by omega)]at b;by_cases B:K=7;·rw[if_pos B];exact a _ (wrap64_wf _)
 rw[if_neg B];by_cases z:K=8;·rw[if_pos z];exact a _ (wrap64_wf _)
 rw[if_neg z];rw[if_neg (by omega)]at b;by_cases s:K=9;·rw[if_pos s];rw[if_pos s,ae,ae]at b;obtain⟨C,rfl,F,D⟩:=mj b.2 (by omega);have:∀x,m.nx+1<=x->x<=t.nc->qG t {m with nx:=x}/\m.nx<x:=λx p o=>⟨⟨i,g,o,by show m.ch.length<=x;omega,y⟩,p⟩;simp only[aF];split;(·exact this C (by omega) (by omega));·exact this (m.nx+1) (au _) d
 rw[if_neg s];exact⟨⟨i,g,au _,bd _,by simp⟩,d⟩
theorem KX{t:iV}(T:qo t):∀(f:Nat)(m:jq),qG t m->t.nc-m.nx<=f->runM t f m=runM t (t.nc-m.nx) m|0,m,_,h=>by rw[show t.nc-m.nx=0 by omega]|f+1,m,c,h=>by by_cases a:m.nx<t.nc;(·obtain⟨b,i⟩:=c.step T a;have e:∃g,t.nc-m.nx=g+1:=⟨t.nc-m.nx-1,by omega⟩;obtain⟨g,d⟩:=e;rw[d];unfold runM;rw[if_pos a,if_pos a,KX T f _ b (by omega),<-KX T g _ b (by omega)]);·rw[show t.nc-m.nx=0 by omega];unfold runM;rw[if_neg a]
def zW(t:iV)(m:jq):jq:=runM t (t.nc-m.nx) m
theorem acj{t:iV}(T:qo t){m:jq}(h:qG t m)(a:m.nx<t.nc):zW t m=zW t (mS t m):=by
 obtain⟨b,d⟩:=h.step T a;unfold zW;obtain⟨g,c⟩:∃g,t.nc-m.nx=g+1:=⟨t.nc-m.nx-1,by omega⟩;rw[c];conv=>lhs;unfold runM
 rw[if_pos a,KX T g _ b (by omega)]
theorem acP{t:iV}{m:jq}(h:¬m.nx<t.nc):zW t m=m:=by unfold zW;rw[show t.nc-m.nx=0 by omega];rfl
theorem Uz(t:iV)(l:List (Nat×Int)):zW t (ug l)=mn t l:=rfl
end
section
structure Good(D:jb):Prop where
 nb:D.nb<=3
 nl:D.nl<=24
 Ni:jU (mU 1 D.fb) D.nb=true
 iC:jU (λi=>lX (D.ts i)) D.nl=true
theorem within_iff{n lo hi:Int}:jf n lo hi=ak↔lo<=n/\n<=hi:=by simp[jf]
theorem Qr{lo:Int}{f:Nat->Int}{n j:Nat}(h:jU (mU lo f) n=ak)(a:j+1<n):f j<f (j+1):=by have:=nA h a;simp only[mU,within_iff]at this;omega
theorem Pg{lo:Int}{f:Nat->Int}{n:Nat}(h:jU (mU lo f) n=ak):∀d i,i+d+1<n->f i<f (i+d+1)|0,i,hi=>Qr h hi|d+1,i,hi=>by have a:=Pg h d i (by omega);have b:=Qr (j:=i+d+1) h (by omega);(have e:i+(d+1)+1=i+d+1+1:=by omega);rw[e];omega
theorem XK{lo:Int}{f:Nat->Int}{n i j:Nat}(h:jU (mU lo f) n=ak)(a:i<j)(b:j<n):f i<f j:=by
 have:=Pg h (j-i-1) i (by omega);have e:i+(j-i-1)+1=j:=by omega
 rw[e]at this;exact this
theorem Q2{f:Nat->Int}{n:Nat}(x:Int)(inc:∀i j,i<j->j<n->f i<f j):∀m,m<=n->∀i,i<m->(f i<=x↔i<ju (λi=>decide (f i<=x)) m)|0,_,i,hi=>by omega|m+1,d,i,hi=>by have b:=Q2 x inc m (by omega);have c:=oY (λi=>decide (f i<=x)) m;by_cases a:f m<=x;(·(have all:ju (λi=>decide (f i<=x)) m=m:=by cases m with|zero=>rfl|succ k=>have g:=(b k (by omega)).1 (by have:=inc k (k+1) (by omega) (by omega);omega);omega);rw[sM (p:=λi=>decide (f i<=x)) (k:=m) (by simpa using a),all];constructor;(·intro _;omega);·intro _;by_cases e:i=m;(·rw[e];exact a);·have:=inc i m (by omega) (by omega);omega);·rw[ur (p:=λi=>decide (f i<=x)) (k:=m) (by simpa using a)];by_cases e:i=m;(·subst e;constructor;(·intro h;omega);·intro h;omega);·exact b i (by omega)
theorem PN{p q:Nat->Bool}(h:∀i,p i=ak->q i=ak):∀n,ju p n<=ju q n|0=>au _|n+1=>by have:=PN h n;simp only[ju];cases a:p n with|false=>simp;split<;>omega|true=>simp[h n a];omega
theorem NV(nb:Nat)(fb:Nat->Int){x y:Int}(h:x<=y):ks nb fb x<=ks nb fb y:=PN (λi hi=>by simp at hi⊢;omega) nb
theorem xH(nb:Nat)(fb:Nat->Int)(x:Int):ks nb fb x<=nb:=oY _ _
theorem Good.inc{D:jb}(G:Good D):∀i j,i<j->j<D.nb->D.fb i<D.fb j:=λ_ _ h a=>XK G.Ni h a
theorem Good.bound{D:jb}(G:Good D)(i:Nat)(h:i<D.nb):1<=D.fb i/\D.fb i<=99:=by
 have:∀k,k<=D.nb->∀j,j<k->1<=D.fb j/\D.fb j<=99:=by intro k;induction k with|zero=>intro _ j b;omega|succ k a=>intro hk j b;by_cases e:j=k;(·subst e;have:=nA G.Ni (k:=j) (by omega);cases j with|zero=>simp only[mU,within_iff]at this;exact this|succ i=>simp only[mU,within_iff]at this;have:=a (by omega) i (by omega);omega);·exact a (by omega) j (by omega)
 exact this D.nb (au _) i h
theorem Good.key{D:jb}(G:Good D){i:Nat}(hi:i<D.nl):oG (D.ts i).nr (D.ts i).r=ak/\oG (D.ts i).nw (D.ts i).wr=ak/\sD (D.ts i).ng (D.ts i).g=ak:=by have:=nA G.iC hi;simp only[lX,ae]at this;exact⟨this.1.1.1,this.1.1.2,this.1.2⟩
theorem Good.QG{D:jb}(G:Good D){i:Nat}(hi:i<D.nl){j:Nat}(a:j<(D.ts i).nr):0<=(D.ts i).r j/\(D.ts i).r j<=99:=by have:=(G.key hi).1;simp only[oG,ae]at this;exact within_iff.1 (nA this.2 a)
theorem Good.L3{D:jb}(G:Good D){i:Nat}(hi:i<D.nl){j:Nat}(a:j<(D.ts i).nw):0<=(D.ts i).wr j/\(D.ts i).wr j<=99:=by have:=(G.key hi).2.1;simp only[oG,ae]at this;exact within_iff.1 (nA this.2 a)
theorem Good.Pd{D:jb}(G:Good D){i:Nat}(hi:i<D.nl){j:Nat}(a:j<(D.ts i).ng):0<=(D.ts i).g (2*j)/\(D.ts i).g (2*j)<=(D.ts i).g (2*j+1)/\(D.ts i).g (2*j+1)<=99:=by have:=(G.key hi).2.2;simp only[sD,ae]at this;have:=nA this.2 a;simp only[qp,ae,within_iff,decide_eq_true_eq]at this;omega
theorem Good.reach{D:jb}(G:Good D){i:Nat}(hi:i<D.nl){j:Nat}(s:j<(D.ts i).ng){p:Nat}(h:tU D.nb D.fb p ((D.ts i).g (2*j)) ((D.ts i).g (2*j+1))=ak):∃k:Nat,k<100/\vj (D.ts i) k j=ak/\ks D.nb D.fb k=p:=by
 obtain⟨u,w,t⟩:=G.Pd hi s;simp only[tU,ae,decide_eq_true_eq]at h;have pre:=λx=>Q2 (n:=D.nb) x G.inc D.nb (au _);by_cases e:ks D.nb D.fb ((D.ts i).g (2*j))=p;·refine⟨((D.ts i).g (2*j)).toNat,by omega,?_,?_⟩;(·simp only[vj,ae,decide_eq_true_eq];omega);·rw[show(((D.ts i).g (2*j)).toNat:Int)=(D.ts i).g (2*j)from by omega];exact e
 ·have r:=xH D.nb D.fb ((D.ts i).g (2*j+1));(have c:p-1<D.nb:=by omega);have b:=G.bound (p-1) c;(have lo:¬D.fb (p-1)<=(D.ts i).g (2*j):=λm=>by have l:=(pre ((D.ts i).g (2*j)) (p-1) c).1 m;(have f:ks D.nb D.fb ((D.ts i).g (2*j))<=p:=by omega);simp only[ks]at e f;omega);have q:D.fb (p-1)<=(D.ts i).g (2*j+1):=(pre ((D.ts i).g (2*j+1)) (p-1) c).2 (by(have:p<=ks D.nb D.fb ((D.ts i).g (2*j+1)):=by omega);simp only[ks]at this;omega);refine⟨(D.fb (p-1)).toNat,by omega,?_,?_⟩;(·simp only[vj,ae,decide_eq_true_eq];omega);·rw[show((D.fb (p-1)).toNat:Int)=D.fb (p-1)from by omega];have v:=(pre (D.fb (p-1)) (p-1) c).1 (by omega);(have o:ks D.nb D.fb (D.fb (p-1))<=p:=by rcases bz p D.nb with a|a;(·(have l:¬D.fb p<=D.fb (p-1):=by have:=G.inc (p-1) p (by omega) a;omega);have f:=(pre (D.fb (p-1)) p a).2;rcases bz p (ks D.nb D.fb (D.fb (p-1)))with d|d;(·exact absurd (f d) l);·exact d);·have:=xH D.nb D.fb (D.fb (p-1));omega);simp only[ks]at o⊢;omega
theorem Good.Fl{D:jb}(G:Good D){i:Nat}(hi:i<D.nl)(d:¬(D.ts i).nr+(D.ts i).nw+(D.ts i).ng=0):∃k:Nat,k<100/\lh (D.ts i) k=ak:=by
 by_cases a:0<(D.ts i).nr;·have:=G.QG hi a;refine⟨((D.ts i).r 0).toNat,by omega,?_⟩;rw[show(((D.ts i).r 0).toNat:Int)=(D.ts i).r 0 from by omega,lh,hasB,ph (p:=λj=>(D.ts i).r j==(D.ts i).r 0) a (by simp)];rfl
 ·by_cases c:0<(D.ts i).nw;(·have:=G.L3 hi c;refine⟨((D.ts i).wr 0).toNat,by omega,?_⟩;rw[show(((D.ts i).wr 0).toNat:Int)=(D.ts i).wr 0 from by omega,lh];rw[show hasB (D.ts i).nw (D.ts i).wr ((D.ts i).wr 0)=ak from ph (p:=λj=>(D.ts i).wr j==(D.ts i).wr 0) c (by simp)];simp);·(have b:0<(D.ts i).ng:=by omega);have:=G.Pd hi b;refine⟨((D.ts i).g (2*0)).toNat,by omega,?_⟩;rw[show(((D.ts i).g (2*0)).toNat:Int)=(D.ts i).g (2*0)from by omega,lh];rw[show kG (vj (D.ts i) ((D.ts i).g (2*0))) (D.ts i).ng=ak from ph b (by simp only[vj,ae,decide_eq_true_eq];omega)];simp
theorem Oj{t:iV}(d:t.nr+t.nw+t.ng=0)(x:Int):lh t x=az:=by
 have c:t.nr=0:=by omega
 have a:t.nw=0:=by omega
 have b:t.ng=0:=by omega
 simp[lh,hasB,c,a,b,kG]
theorem Good.abJ{D:jb}(G:Good D){i:Nat}(hi:i<D.nl)(p:Nat):Hc D i p=jo D i p:=by
 by_cases d:(D.ts i).nr+(D.ts i).nw+(D.ts i).ng=0;·(have e1:kG (λk=>lh (D.ts i) k&&((ks D.nb D.fb k:Int)==(p:Int))) 100=az:=by cases e:kG (λk=>lh (D.ts i) k&&((ks D.nb D.fb k:Int)==(p:Int))) 100 with|false=>rfl|true=>obtain⟨k,_,hk⟩:=uC e;simp[Oj d]at hk);(have e2:kG (λk=>lh (D.ts i) k) 100=az:=by cases e:kG (λk=>lh (D.ts i) k) 100 with|false=>rfl|true=>obtain⟨k,_,hk⟩:=uC e;simp[Oj d]at hk);rw[Hc,e1,e2,jo,if_pos d];rfl
 ·obtain⟨q,m,o⟩:=G.Fl hi d;have e2:kG (λk=>lh (D.ts i) k) 100=ak:=ph m o;rw[Hc,e2,jo,if_neg d];simp only[Bool.not_true,Bool.false_and,Bool.or_false];rw[Bool.eq_iff_iff];constructor;(·intro h;obtain⟨k,hk,f⟩:=uC h;simp only[ae,beq_iff_eq]at f;obtain⟨c,l⟩:=f;simp only[lh,aI]at c;rcases c with(c|c)|c;(·obtain⟨j,b,a⟩:=uC c;rw[beq_iff_eq]at a;rw[show yK D p (D.ts i).nr (D.ts i).r=ak from ph b (by rw[a,beq_iff_eq];exact l)];rfl);(·obtain⟨j,b,a⟩:=uC c;simp only[vj,ae,decide_eq_true_eq]at a;have t:=NV D.nb D.fb a.1;have s:=NV D.nb D.fb a.2;rw[show G4 D p (D.ts i).ng (D.ts i).g=ak from ph b (by simp only[tU,ae,decide_eq_true_eq];omega)];simp);·obtain⟨j,b,a⟩:=uC c;rw[beq_iff_eq]at a;rw[show yK D p (D.ts i).nw (D.ts i).wr=ak from ph b (by rw[a,beq_iff_eq];exact l)];simp);·intro h;simp only[aI]at h;rcases h with(h|h)|h;(·obtain⟨j,b,a⟩:=uC h;have:=G.QG hi b;refine ph (k:=((D.ts i).r j).toNat) (by omega) ?_;rw[show(((D.ts i).r j).toNat:Int)=(D.ts i).r j from by omega,a,lh];rw[show hasB (D.ts i).nr (D.ts i).r ((D.ts i).r j)=ak from ph b (by simp)];rfl);(·obtain⟨j,b,a⟩:=uC h;have:=G.L3 hi b;refine ph (k:=((D.ts i).wr j).toNat) (by omega) ?_;rw[show(((D.ts i).wr j).toNat:Int)=(D.ts i).wr j from by omega,a,lh];rw[show hasB (D.ts i).nw (D.ts i).wr ((D.ts i).wr j)=ak from ph b (by simp)];simp);·obtain⟨j,b,a⟩:=uC h;obtain⟨k,hk,n,l⟩:=G.reach hi b a;refine ph (k:=k) hk ?_;rw[l,lh];rw[show kG (vj (D.ts i) k) (D.ts i).ng=ak from ph b n];simp
end
section
open Go.RowKit Go.Maps
theorem Tryz.aah:(Tryz.prog.info? 131).map (λi=>(i.zero,i.size,i.bytes))=aj (aj (.agg #[.map ao,.pointer ao,.int .i64 0,.int .i64 0,.slice ao 0 0,.slice ao 0 0,.slice ao 0 0,.slice ao 0 0,.slice ao 0 0,.slice ao 0 0]),10,176):=by kernel_rfl
def qQ(nb:Nat)(fb:Nat->Int)(fs:Nat->Int):Nat->Nat->Nat->Bool|0,_,_=>az|n+1,p,k=>if ks nb fb (fs (2*n))=p/\fs (2*n)=k then ak else qQ nb fb fs n p k
def qW(nb:Nat)(fb:Nat->Int)(fs:Nat->Int):Nat->Nat->Nat->Int|0,_,_=>0|n+1,p,k=>if ks nb fb (fs (2*n))=p/\fs (2*n)=k then fs (2*n+1)else qW nb fb fs n p k
theorem Ub(nb:Nat)(fb:Nat->Int)(x:Int):ks nb fb x<=nb:=oY _ _
theorem iO.ahr{w:ai}{g T m:Nat}{c:Nat->ah}(h:iO w g T m c){n b:Nat}{hs:Nat->Bool}{vl:Nat->Int}(f:mz n w b hs vl):g≠b:=by intro e;subst e;obtain⟨j,i,_⟩:=h;obtain⟨_,⟨es,a,d,_⟩,_⟩:=f;rw[i]at d;cases d
def IG(r:Nat):ah:=if r=0 then .map ao else if r=1 then .pointer ao else if r=2\/r=3 then .int .i64 0 else .slice ao 0 0
def zU(D:jb)(e:Nat)(M:Nat->Nat)(p r:Nat):ah:=if r=0 then .map (aj (M p))else if r=1 then .pointer (aj ⟨e,0,ao⟩)else if r=2 then .int .i64 (p:Nat)else if r=3 then .int .i64 (zP D (p:Int):Nat)else .slice ao 0 0
def pG(D:jb)(e:Nat)(M:Nat->Nat)(k:Nat)(j:Nat):ah:=if j<k*10 then zU D e M (j/10) (j%10)else IG (j%10)
theorem LJ(D:jb)(e:Nat)(M:Nat->Nat){k p r:Nat}(h:p<k)(a:r<10):pG D e M k (p*10+r)=zU D e M p r:=by unfold pG;rw[if_pos (by omega),show(p*10+r)/10=p from by omega,show(p*10+r)%10=r from by omega]
theorem abz(D:jb)(e:Nat)(M:Nat->Nat)(k m:Nat)(f:Nat->ah)(c:∀r,r<10->f (k*10+r)=zU D e (upd M k m) k r)(b:∀j,j<k*10\/k*10+10<=j->f j=pG D e M k j)(j:Nat):f j=pG D e (upd M k m) (k+1) j:=by
 by_cases a:j<k*10;·rw[b j (.inl a)];unfold pG;rw[if_pos a,if_pos (by omega)];unfold zU;rw[jr _ _ (by omega)]
 ·by_cases d:j<k*10+10;(·obtain⟨r,rfl⟩:∃r,j=k*10+r:=⟨j-k*10,by omega⟩;rw[c r (by omega),LJ _ _ _ (by omega) (by omega)]);·rw[b j (.inr (by omega))];unfold pG;rw[if_neg a,if_neg (by omega)]
end
section
structure iK where
 iC:Nat
 read:Bool
 kept:List (Nat×Int)
 iJ:Nat->Bool
structure Part where
 hs:Nat->Bool
 vl:Nat->Int
 n:Nat
 up:Nat
 opn:List iK
 jc:Nat->List jO
 taken:List jO
structure we where
 dn:Bool
 ab:Bool
 r:Nat->Int
structure iF where
 part:Nat->Part
 res:Nat->we
structure iE where
 D:jb
 W:Nat
 C:Nat
 K:Nat
def ki(D:jb)(k:Nat):Nat:=ks D.nb D.fb k
def BH(D:jb)(a b p:Nat):Bool:=kG (λj=>(ks D.nb D.fb ((D.ts a).wr j)==p)&&lh (D.ts b) ((D.ts a).wr j)) (D.ts a).nw
def rf(D:jb)(a b p:Nat):Bool:=BH D a b p||BH D b a p
def mP(D:jb)(p i:Nat):Nat:=pA (λi=>jo D i p) (D.nl-i) i
def jB(hs:Nat->Bool)(vl:Nat->Int):Nat->List (Nat×Int)|0=>[]|k+1=>jB hs vl k++if hs k then[(k,vl k)]else[]
def yg(t:iV)(hs:Nat->Bool)(vl:Nat->Int):List (Nat×Int):=(jB hs vl 100).filter λx=>lh t x.1
def pH(i:Nat):iK:=⟨i,az,[],λ_=>az⟩
def ld(c:iE)(p:Nat)(P:Part):Option Part:=if P.up<c.D.nl/\P.opn.length≠c.W then aj {P with opn:=P.opn++[pH P.up],up:=mP c.D p (P.up+1)}else ao
def th(D:jb)(p:Nat)(l:List iK)(i:Nat):Bool:=l.all λe=>!rf D e.iC i p
def pT(D:jb)(p:Nat)(l:List iK)(at':Nat):Bool:=match l[at']? with|aj e=>th D p (l.take at') e.iC|ao=>az
def nP(f:iK->Bool)(l:List iK)(at':Nat):Bool:=match l[at']? with|aj e=>f e|ao=>az
def mh(D:jb)(p:Nat)(l:List iK)(at':Nat):Bool:=nP (λe=>!e.read) l at'&&pT D p l at'
def nv(D:jb)(p:Nat)(l:List iK):Nat:=pA (mh D p l) l.length 0
def sK(D:jb)(P:Part)(e:iK):iK:={e with read:=ak,kept:=e.kept++yg (D.ts e.iC) P.hs P.vl}
def kV(c:iE)(p:Nat)(P:Part):Option Part:=if nv c.D p P.opn<P.opn.length then aj {P with opn:=P.opn.modify (nv c.D p P.opn) (sK c.D P)}else ao
def oy(D:jb)(q:Nat)(e:iK):Bool:=e.read&&!e.iJ q&&jo D e.iC q
def lV(D:jb)(q:Nat)(l:List iK):Nat:=pA (nP (oy D q) l) l.length 0
def pj(q:Nat)(e:iK):iK:={e with iJ:=upd e.iJ q ak}
def ov(p:Nat)(l:List iK)(i:Nat):jO:=match l[i]? with|aj e=>⟨p,e.iC,e.kept⟩|ao=>⟨p,0,[]⟩
def mZ(q i:Nat)(P:Part):Part:={P with opn:=P.opn.modify i (pj q)}
def mL(p:Nat)(x:jO)(P:Part):Part:={P with jc:=upd P.jc p (P.jc p++[x])}
def nR(c:iE)(p q:Nat)(E:iF):Option iF:=if lV c.D q (E.part p).opn<(E.part p).opn.length/\((E.part q).jc p).length≠c.C then aj ⟨upd (upd E.part p (mZ q (lV c.D q (E.part p).opn) (E.part p))) q (mL p (ov p (E.part p).opn (lV c.D q (E.part p).opn)) (E.part q)),E.res⟩else ao
def lj(q:Nat)(P:Part):Option Part:=match P.jc q with|[]=>ao|x::l=>aj {P with taken:=P.taken++[x],jc:=upd P.jc q l}
def qd(P:Part)(i q:Nat):Bool:=P.taken.any λt=>t.iC==i&&t.fr==q
def od(D:jb)(p:Nat)(P:Part)(e:iK):Bool:=jU (λq=>q==p||!jo D e.iC q||(e.iJ q&&qd P e.iC q)) (D.nb+1)
def kx(c:iE)(p:Nat)(P:Part):List iK:=(P.opn.filter λe=>e.read&&od c.D p P e).take c.K
def Aq(D:jb)(p:Nat)(s:(Nat->Bool)×(Nat->Int))(x:om):(Nat->Bool)×(Nat->Int):=if ki D x.key=p then(if x.del then(upd s.1 x.key az,s.2)else(upd s.1 x.key ak,upd s.2 x.key x.val))else s
def ue(D:jb)(p:Nat)(s:(Nat->Bool)×(Nat->Int))(l:List om):(Nat->Bool)×(Nat->Int):=l.foldl (Aq D p) s
def tN(D:jb)(P:Part)(e:iK):jq:=mn (D.ts e.iC) (e.kept++lS e.iC P.taken)
def nT(D:jb)(p i:Nat)(m:jq)(P:Part):Part:={P with hs:=(ue D p (P.hs,P.vl) m.ch).1,vl:=(ue D p (P.hs,P.vl) m.ch).2,n:=P.n+m.ch.length,opn:=P.opn.filter (λe=>!(e.iC==i)),taken:=P.taken.filter (λt=>!(t.iC==i))}
def kO(D:jb)(p:Nat)(E:iF)(x:Nat×jq):iF:=⟨upd E.part p (nT D p x.1 x.2 (E.part p)),upd E.res x.1 ⟨ak,x.2.ab,x.2.r⟩⟩
def mH(c:iE)(p:Nat)(P:Part):List (Nat×jq):=(kx c p P).map λe=>(e.iC,tN c.D P e)
def pz(c:iE)(p:Nat)(E:iF):Option iF:=if kx c p (E.part p)=[]then ao else aj ((mH c p (E.part p)).foldl (kO c.D p) E)
def nz(E:iF)(p:Nat)(o:Option Part):Option iF:=o.map λP=>{E with part:=upd E.part p P}
def jy(c:iE)(E:iF)(p k q:Nat):Option iF:=if k=1 then nz E p (ld c p (E.part p))else if k=2 then nz E p (kV c p (E.part p))else if k=3 then(if q<=c.D.nb/\p≠q then nR c p q E else ao)else if k=4 then(if q<=c.D.nb/\p≠q then nz E p (lj q (E.part p))else ao)else if k=5 then pz c p E else ao
def jm(P:Part)(i:Nat):Bool:=decide (i<P.up)&&!(P.opn.any λe=>e.iC==i)
def jH(c:iE)(E:iF)(i:Nat):Bool:=jU (λp=>!jo c.D i p||jm (E.part p) i) (c.D.nb+1)
def uD:we:=⟨az,az,λ_=>0⟩
def kj(c:iE)(E:iF)(i:Nat):we:=if jH c E i then E.res i else uD
def qu(D:jb)(a:Nat)(fs:Nat->Int)(p:Nat):Part:=⟨qQ D.nb D.fb fs a p,qW D.nb D.fb fs a p,100,mP D p 0,[],λ_=>[],[]⟩
def kS(D:jb)(a:Nat)(fs:Nat->Int):iF:=⟨qu D a fs,λ_=>uD⟩
def kW(fs:Nat->Int):Nat->Nat->Bool|0,_=>az|n+1,k=>if fs (2*n)=k then ak else kW fs n k
def lE(fs:Nat->Int):Nat->Nat->Int|0,_=>0|n+1,k=>if fs (2*n)=k then fs (2*n+1)else lE fs n k
def nU(t:iV)(s:(Nat->Bool)×(Nat->Int)):jq:=runM t t.nc ⟨az,λ_=>0,[],s.1,s.2,0⟩
def qk(t:iV)(s:(Nat->Bool)×(Nat->Int)):(Nat->Bool)×(Nat->Int):=if(nU t s).ab then s else((nU t s).hs,(nU t s).vl)
def j9(D:jb)(s:(Nat->Bool)×(Nat->Int)):Nat->(Nat->Bool)×(Nat->Int)|0=>s|i+1=>qk (D.ts i) (j9 D s i)
end
section
open Go.RowKit Go.Maps
theorem GH{a:Type}(f:a->List ah)(n:Nat)(b:∀x,(f x).length=n):∀l:List a,(l.flatMap f).length=l.length*n|[]=>by simp|x::l=>by simp[aX,b x,GH f n b l,bl];omega
theorem AY{b:Type}(f:b->List ah)(n:Nat)(a:∀x,(f x).length=n):∀(l:List b)(k j:Nat)(x:b),l[k]?=aj x->j<n->(l.flatMap f)[k*n+j]?=(f x)[j]?|[],k,j,x,h,_=>by simp at h|y::l,0,j,x,h,c=>by simp only[List.getElem?_cons_zero,aK]at h;subst h;rw[aX,Nat.zero_mul,bj,List.getElem?_append_left (by rw[a];exact c)]|y::l,k+1,j,x,h,c=>by simp only[List.getElem?_cons_succ]at h;rw[aX,List.getElem?_append_right (by rw[a,bl];omega),a,<-AY f n a l k j x h c];congr 1;rw[bl];omega
def jY(x:ah×iK):List ah:=[.int .i64 x.2.iC,.bool x.2.read,x.1,.bool (x.2.iJ 0),.bool (x.2.iJ 1),.bool (x.2.iJ 2),.bool (x.2.iJ 3)]
def kl(x:ah×jO):List ah:=[.int .i64 x.2.fr,.int .i64 x.2.iC,x.1]
theorem xw(x:ah×iK):(jY x).length=7:=rfl
theorem K4(x:ah×jO):(kl x).length=3:=rfl
def Own(z:Nat)(O:Nat->Nat)(b:Nat):Prop:=z<=O b/\O b<z+50
abbrev ou(z:Nat)(O:Nat->Nat)(b:Nat):Prop:=¬Own z O b
abbrev Ag(z:Nat)(O:Nat->Nat)(w w':ai):Prop:=iG (ou z O) w w'
theorem Ag.step{z:Nat}{O O':Nat->Nat}{w w' a:ai}(h:Ag z O w w')(d:Ag z O' w' a)(e:∀b,b<w.heap.size->O' b=O b):Ag z O w a:=⟨aY h.size d.size,λb hs c=>(d.block b (by unfold ou Own at hs⊢;rw[e b c];exact hs) (aP c h.size)).trans (h.block b hs c)⟩
abbrev Fz(z:Nat)(O:Nat->Nat)(b:Nat):Prop:=ou z O b/\O b=0
abbrev Af(z:Nat)(O:Nat->Nat)(w w':ai):Prop:=iG (Fz z O) w w'
theorem Ag.af{z:Nat}{O:Nat->Nat}{w w':ai}(h:Ag z O w w'):Af z O w w':=h.mono λ_ x=>x.1
theorem Af.step{z:Nat}{O O':Nat->Nat}{w w' a:ai}(h:Af z O w w')(d:Af z O' w' a)(e:∀b,b<w.heap.size->O' b=O b):Af z O w a:=⟨aY h.size d.size,λb hs c=>(d.block b (by unfold Fz ou Own at hs⊢;rw[e b c];exact hs) (aP c h.size)).trans (h.block b hs c)⟩
def nX(z:Nat)(O:Nat->Nat)(w:ai)(v:ah)(l:List (Nat×Int)):Prop:=(∃a c,v=.slice a l.length c)/\∀w',Af z O w w'->qC w' v l
theorem nX.rd{z:Nat}{O:Nat->Nat}{w:ai}{v:ah}{l:List (Nat×Int)}(h:nX z O w v l):qC w v l:=h.2 w (iG.refl _ _)
theorem nX.moveF{z:Nat}{O O':Nat->Nat}{w w':ai}{v:ah}{l:List (Nat×Int)}(h:nX z O w v l)(c:Af z O w w')(d:∀b,b<w.heap.size->O' b=O b):nX z O' w' v l:=⟨h.1,λa e=>h.2 a (c.step e d)⟩
theorem nX.move{z:Nat}{O O':Nat->Nat}{w w':ai}{v:ah}{l:List (Nat×Int)}(h:nX z O w v l)(c:Ag z O w w')(a:∀b,b<w.heap.size->O' b=O b):nX z O' w' v l:=h.moveF c.af a
theorem nX.nil(z:Nat)(O:Nat->Nat)(w:ai):nX z O w (.slice ao 0 0) []:=⟨⟨ao,0,rfl⟩,λw' _=>XH w' 2⟩
theorem nX.own{z:Nat}{O:Nat->Nat}{w:ai}{v:ah}{l:List (Nat×Int)}(h:w.ownsRow 0 81 2 v l.length (nI l))(j:∀b,v.ownBlock=aj b->Fz z O b):nX z O w v l:=by
 refine⟨sw h,λw' d=>Ih (base:=0) (e:=81) ?_ (Kc l)⟩;rcases h.2 with f|⟨g,cap,a,rfl,i,c,k⟩;·exact⟨h.1,.inl f⟩
 ·exact⟨h.1,.inr ⟨g,cap,a,rfl,i,by rw[d.block g (j g rfl) (ax.1 c).1];exact c,k⟩⟩
def vz(z:Nat)(O:Nat->Nat)(w:ai)(x:ah×iK):Prop:=nX z O w x.1 x.2.kept/\(x.2.read=az->x.1=.slice ao 0 0)
theorem vz.moveF{z:Nat}{O O':Nat->Nat}{w w':ai}{x:ah×iK}(h:vz z O w x)(c:Af z O w w')(a:∀b,b<w.heap.size->O' b=O b):vz z O' w' x:=⟨h.1.moveF c a,h.2⟩
theorem vz.move{z:Nat}{O O':Nat->Nat}{w w':ai}{x:ah×iK}(h:vz z O w x)(c:Ag z O w w')(a:∀b,b<w.heap.size->O' b=O b):vz z O' w' x:=h.moveF c.af a
def kC(z:Nat)(O:Nat->Nat)(w:ai)(c:Nat)(v:ah)(l:List iK):Prop:=∃es:List (ah×iK),es.map Prod.snd=l/\w.ownsRow 0 173 7 v l.length (es.flatMap jY)/\(∀x∈es,vz z O w x)/\∀b,v.ownBlock=aj b->O b=c
def mR(z:Nat)(O:Nat->Nat)(w:ai)(c:Nat)(v:ah)(l:List jO):Prop:=∃es:List (ah×jO),es.map Prod.snd=l/\w.ownsRow 0 195 3 v l.length (es.flatMap kl)/\(∀x∈es,nX z O w x.1 x.2.ps)/\∀b,v.ownBlock=aj b->O b=c
theorem vh{w w':ai}{e:bu}{c n:Nat}{v:ah}{xs:List ah}(h:w.ownsRow 0 e c v n xs)(i:∀b,v.ownBlock=aj b->w'.heap[b]?=w.heap[b]?):w'.ownsRow 0 e c v n xs:=by
 rcases h.2 with k|⟨g,cap,a,rfl,f,d,j⟩;·exact⟨h.1,.inl k⟩
 ·exact⟨h.1,.inr ⟨g,cap,a,rfl,f,by rw[i g rfl];exact d,j⟩⟩
theorem kC.moveF{z:Nat}{O O':Nat->Nat}{w w':ai}{c:Nat}{v:ah}{l:List iK}(h:kC z O w c v l)(g:Af z O w w')(e:∀b,b<w.heap.size->O' b=O b)(k:∀b,b<w.heap.size->O b=c->w'.heap[b]?=w.heap[b]?):kC z O' w' c v l:=by obtain⟨es,j,d,i,f⟩:=h;exact⟨es,j,vh d (λb a=>k b (d.lt b a).2 (f b a)),λx m=>(i x m).moveF g e,λb a=>by rw[e b (d.lt b a).2];exact f b a⟩
theorem kC.move{z:Nat}{O O':Nat->Nat}{w w':ai}{c:Nat}{v:ah}{l:List iK}(h:kC z O w c v l)(d:Ag z O w w')(e:∀b,b<w.heap.size->O' b=O b)(a:∀b,b<w.heap.size->O b=c->w'.heap[b]?=w.heap[b]?):kC z O' w' c v l:=h.moveF d.af e a
theorem mR.moveF{z:Nat}{O O':Nat->Nat}{w w':ai}{c:Nat}{v:ah}{l:List jO}(h:mR z O w c v l)(g:Af z O w w')(e:∀b,b<w.heap.size->O' b=O b)(k:∀b,b<w.heap.size->O b=c->w'.heap[b]?=w.heap[b]?):mR z O' w' c v l:=by obtain⟨es,j,d,i,f⟩:=h;exact⟨es,j,vh d (λb a=>k b (d.lt b a).2 (f b a)),λx m=>(i x m).moveF g e,λb a=>by rw[e b (d.lt b a).2];exact f b a⟩
theorem mR.move{z:Nat}{O O':Nat->Nat}{w w':ai}{c:Nat}{v:ah}{l:List jO}(h:mR z O w c v l)(d:Ag z O w w')(e:∀b,b<w.heap.size->O' b=O b)(a:∀b,b<w.heap.size->O b=c->w'.heap[b]?=w.heap[b]?):mR z O' w' c v l:=h.moveF d.af e a
theorem kC.nil(z:Nat)(O:Nat->Nat)(w:ai)(c:Nat):kC z O w c (.slice ao 0 0) []:=⟨[],rfl,aU _ _ _ _,by simp,λb a=>by cases a⟩
theorem mR.nil(z:Nat)(O:Nat->Nat)(w:ai)(c:Nat):mR z O w c (.slice ao 0 0) []:=⟨[],rfl,aU _ _ _ _,by simp,λb a=>by cases a⟩
theorem kC.slice{z:Nat}{O:Nat->Nat}{w:ai}{c:Nat}{v:ah}{l:List iK}(h:kC z O w c v l):∃a cap,v=.slice a l.length cap:=by obtain⟨es,d,b,_⟩:=h;exact sw b
theorem mR.slice{z:Nat}{O:Nat->Nat}{w:ai}{c:Nat}{v:ah}{l:List jO}(h:mR z O w c v l):∃a cap,v=.slice a l.length cap:=by obtain⟨es,d,b,_⟩:=h;exact sw b
def lI(z:Nat)(O:Nat->Nat)(w:ai)(e p s:Nat)(v:ah)(P:Part):Prop:=if s=0 then∃M,v=.map (aj M)/\O M=z+p*10/\M<w.heap.size/\mz P.n w M P.hs P.vl else if s=1 then v=.pointer (aj ⟨e,0,ao⟩)else if s=2 then v=.int .i64 (p:Nat)else if s=3 then v=.int .i64 (P.up:Nat)else if s=4 then kC z O w (z+p*10+4) v P.opn else if s=9 then mR z O w (z+p*10+9) v P.taken else mR z O w (z+p*10+s) v (P.jc (s-5))
theorem lI.moveF{z:Nat}{O O':Nat->Nat}{w w':ai}{e p s:Nat}{v:ah}{P:Part}(h:lI z O w e p s v P)(i:Af z O w w')(k:∀b,b<w.heap.size->O' b=O b)(l:∀b,b<w.heap.size->O b=z+p*10+s->w'.heap[b]?=w.heap[b]?):lI z O' w' e p s v P:=by
 unfold lI at h⊢;split;·rename_i j;rw[if_pos j]at h;obtain⟨M,f,d,a,c⟩:=h;exact⟨M,f,by rw[k M a];exact d,aP a i.size,c.block (l M a (by rw[d,j];rfl))⟩
 rename_i j;rw[if_neg j]at h;split;·rename_i f;rw[if_pos f]at h;exact h
 rename_i f;rw[if_neg f]at h;split;·rename_i d;rw[if_pos d]at h;exact h
 rename_i d;rw[if_neg d]at h;split;·rename_i a;rw[if_pos a]at h;exact h
 rename_i a;rw[if_neg a]at h;split;·rename_i c;rw[if_pos c]at h;exact h.moveF i k (λb n m=>l b n (by rw[m,c]))
 rename_i c;rw[if_neg c]at h;split;·rename_i g;rw[if_pos g]at h;exact h.moveF i k (λb n m=>l b n (by rw[m,g]))
 rename_i g;rw[if_neg g]at h;exact h.moveF i k l
theorem lI.move{z:Nat}{O O':Nat->Nat}{w w':ai}{e p s:Nat}{v:ah}{P:Part}(h:lI z O w e p s v P)(c:Ag z O w w')(d:∀b,b<w.heap.size->O' b=O b)(a:∀b,b<w.heap.size->O b=z+p*10+s->w'.heap[b]?=w.heap[b]?):lI z O' w' e p s v P:=h.moveF c.af d a
def Il(s:Nat)(P Q:Part):Prop:=(s=0->P.n=Q.n/\P.hs=Q.hs/\P.vl=Q.vl)/\(s=3->P.up=Q.up)/\(s=4->P.opn=Q.opn)/\(s=9->P.taken=Q.taken)/\(5<=s->s<9->P.jc (s-5)=Q.jc (s-5))
theorem lI.congr{z:Nat}{O:Nat->Nat}{w:ai}{e p s:Nat}{v:ah}{P Q:Part}(h:lI z O w e p s v P)(hs:Il s P Q)(n:s<10):lI z O w e p s v Q:=by
 obtain⟨e0,e3,l,m,o⟩:=hs;unfold lI at h⊢;split;·rename_i i;rw[if_pos i]at h;obtain⟨a,b,c⟩:=e0 i;rw[<-a,<-b,<-c];exact h
 rename_i i;rw[if_neg i]at h;split;·rename_i j;rw[if_pos j]at h;exact h
 rename_i j;rw[if_neg j]at h;split;·rename_i k;rw[if_pos k]at h;exact h
 rename_i k;rw[if_neg k]at h;split;·rename_i d;rw[if_pos d]at h;rw[<-e3 d];exact h
 rename_i d;rw[if_neg d]at h;split;·rename_i g;rw[if_pos g]at h;rw[<-l g];exact h
 rename_i g;rw[if_neg g]at h;split;·rename_i f;rw[if_pos f]at h;rw[<-m f];exact h
 rename_i f;rw[if_neg f]at h;rw[<-o (by omega) (by omega)];exact h
def BB(r:we)(j:Nat):ah:=if j=0 then .bool r.dn else if j=1 then .bool r.ab else .int .i64 (r.r (j-2))
structure iU(z:Nat)(O:Nat->Nat)(w:ai)(e:Nat)(c:iE)(vB vL:ah)(K R:Nat)(f:Nat->ah)(E:iF):Prop where
 k:∀w',Af z O w w'->mD w' e c.D vB vL/\w'.cell? ⟨e,1,none⟩=some (.int .i64 (c.W:Nat))/\w'.cell? ⟨e,2,none⟩=some (.int .i64 (c.C:Nat))/\w'.cell? ⟨e,3,none⟩=some (.int .i64 (c.K:Nat))/\w'.cell? ⟨e,5,none⟩=some (.slice (some ⟨K,0,none⟩) (c.D.nb+1) (c.D.nb+1))/\w'.cell? ⟨e,6,none⟩=some (.slice (some ⟨R,0,none⟩) c.D.nl c.D.nl)
 oK:O K=z+40
 oR:O R=z+41
 row:iO w K 131 ((c.D.nb+1)*10) f
 part:∀p s,p<=c.D.nb->s<10->lI z O w e p s (f (p*10+s)) (E.part p)
 res:iO w R 75 (c.D.nl*6) (λj=>BB (E.res (j/6)) (j%6))
theorem iU.known{z:Nat}{O:Nat->Nat}{w:ai}{e:Nat}{c:iE}{vB vL:ah}{K R:Nat}{f:Nat->ah}{E:iF}(h:iU z O w e c vB vL K R f E):mD w e c.D vB vL:=(h.k w (iG.refl _ _)).1
theorem iU.move{z:Nat}{O O':Nat->Nat}{w w':ai}{e:Nat}{c:iE}{vB vL:ah}{K R:Nat}{f:Nat->ah}{E:iF}(h:iU z O w e c vB vL K R f E)(g:∀b,b<w.heap.size->w'.heap[b]?=w.heap[b]?)(hs:w.heap.size<=w'.heap.size)(d:∀b,b<w.heap.size->O' b=O b):iU z O' w' e c vB vL K R f E:=by have a:Ag z O w w':=⟨hs,λb _ j=>g b j⟩;exact⟨λi m=>h.k i (a.af.step m d),by rw[d K h.row.lt];exact h.oK,by rw[d R h.res.lt];exact h.oR,h.row.block (g K h.row.lt),λp s l hs=>(h.part p s l hs).move a d (λb j _=>g b j),h.res.block (g R h.res.lt)⟩
theorem iU.below{z:Nat}{O:Nat->Nat}{w w':ai}{e:Nat}{c:iE}{vB vL:ah}{K R:Nat}{f:Nat->ah}{E:iF}(h:iU z O w e c vB vL K R f E)(d:aE w.heap.size w w'):iU z O w' e c vB vL K R f E:=h.move (λb a=>d.block b a) d.size (λ_ _=>rfl)
theorem iU.put{z:Nat}{O O':Nat->Nat}{w w':ai}{e:Nat}{c:iE}{vB vL:ah}{K R:Nat}{f:Nat->ah}{E:iF}(h:iU z O w e c vB vL K R f E){p s:Nat}(I:p<=c.D.nb)(C:c.D.nb<=3)(B:s<10){v:ah}{P:Part}(x:w.heap.size<=w'.heap.size)(n:∀b,b<w.heap.size->O' b=O b)(r:∀b,b<w.heap.size->O b≠z+p*10+s->b≠K->w'.heap[b]?=w.heap[b]?)(l:iO w' K 131 ((c.D.nb+1)*10) (λj=>if j=p*10+s then v else f j))(H:lI z O' w' e p s v P)(G:∀s',s'<10->s'≠s->Il s' (E.part p) P):iU z O' w' e c vB vL K R (λj=>if j=p*10+s then v else f j) {E with part:=upd E.part p P}/\Ag z O w w':=by
 have g:Ag z O w w':=⟨x,λb A i=>r b i (λt=>A ⟨by omega,by omega⟩) (λhk=>A (by rw[hk];exact⟨by rw[h.oK];omega,by rw[h.oK];omega⟩))⟩;refine⟨⟨λy F=>h.k y (g.af.step F n),by rw[n K h.row.lt];exact h.oK,by rw[n R h.res.lt];exact h.oR,l,λu s' m d=>?_,h.res.block (r R h.res.lt (by rw[h.oR];omega) (λhk=>by have a:=h.oK;have b:=h.oR;rw[hk]at b;omega))⟩,g⟩;by_cases o:u=p;·subst o;simp only[upd_same];by_cases q:s'=s;(·subst q;simp only[if_true];exact H);·rw[if_neg (by omega)];exact((h.part u s' m d).move g n (λb i t=>r b i (by omega) (λhk=>by have a:=h.oK;rw[hk]at t;omega))).congr (G s' d q) d
 ·simp only[jr _ _ o];rw[if_neg (by omega)];exact(h.part u s' m d).move g n (λb i t=>r b i (by omega) (λhk=>by have a:=h.oK;rw[hk]at t;omega))
theorem CQ{P:Program}{ops:Array Oper}{o:Oper}{a:Act}{w:ai}{K:Act->ai->Prop}{Q:Exit->Act->ai->Prop}{E:Prop}(h:o.guard=ao)(s x:Operand)(t:bu)(c:o.op=Op.call {callee:=Callee.builtin Builtin.append,args:=#[s,x],argTypes:=#[t,t]})(e f:ah)(hs:a.eval s=e)(j:a.eval x=f)(d:ah)(w':ai)(b:∀ty,(aH #[t,t] ty #[e,f]).run P w=.ok d w')(i:K (a.put o.dst d) w'):if Region.wanted o (yielded ops a.tmps)=ak then Oper.wp P o a w K Q else E:=by
 have g:Region.wanted o (yielded ops a.tmps)=ak:=by simp[Region.wanted,h]
 rw[if_pos g];unfold Oper.wp;simp[execOp,c,resolve,invoke,builtin,hs,j,b,Result.andThen];exact i
theorem Ke{P:Program}(w:ai)(t e:bu)(i:TypeInfo)(z:ah)(size bytes:Nat)(A:P.underlying t=aj (.slice e))(hi:P.info? e=aj i)(I:i.zero=aj z)(l:i.size=size)(x:i.bytes=bytes)(D:z.cells.size=size)(F:0<size)(v:ah)(n:Nat)(xs:List ah)(k:w.ownsRow 0 e size v n xs)(a:bA)(m c:Nat)(b:List ah)(r:b.length=m*size)(d:∀j u,b[j]?=aj u->w.cell? (a.add j)=aj u)(J:∀u∈b,u.oneCell'=ak)(R:0<m)(s:n+m<=maxLen)(f:(n+m)*bytes<=140737488355328):∃h w',(∀ty,(aH #[t,t] ty #[v,.slice (aj a) m c]).run P w=.ok h w')/\w'.ownsRow 0 e size h (n+m) (xs++b)/\w.grownBy w' v.ownBlock/\(h.ownBlock=v.ownBlock\/h.ownBlock=aj w.heap.size):=by
 have key:∀ty,∃h w',(aH #[t,t] ty #[v,.slice (aj a) m c]).run P w=.ok h w'/\w'.ownsRow 0 e size h (n+m) (xs++b)/\w.grownBy w' v.ownBlock:=λty=>by obtain⟨h,w',r1,r2,r3,_⟩:=run_append_own (P:=P) w 0 t ty e i z size bytes A hi I l x D F v n xs k a m c b r d J s f (bd _);exact⟨h,w',r1,r2,r3⟩
 have B:n+m<=9223372036854775807:=by simp only[maxLen]at s;omega
 subst l;subst x;have one:∃h w',(∀ty,(aH #[t,t] ty #[v,.slice (aj a) m c]).run P w=.ok h w')/\(h.ownBlock=v.ownBlock\/h.ownBlock=aj w.heap.size):=by rcases k.2 with⟨rfl,rfl⟩|⟨g,cap,y,rfl,O,L,M,N,G,E⟩;(·exact⟨_,_,λty=>run_append_nil (P:=P) w t ty e i z A hi I a m c b r d (by omega) (by omega) (by have C:=f;simp only[bj]at C;omega),.inr rfl⟩);·by_cases o:n+m<=cap;(·(have q:n*i.size+b.length<=y.size:=by rw[r,G,<-Nat.add_mul];exact Nat.mul_le_mul_right _ o);exact⟨_,_,λty=>run_append_room (P:=P) w t ty e i A hi g n cap y L a m c b r d J o q,.inl rfl⟩);·have p:∀j u,xs[j]?=aj u->w.cell? ((⟨g,0,ao⟩:bA).add j)=aj u:=k.cells (g:=g) rfl;exact⟨_,_,λty=>run_append_grow (P:=P) w t ty e i z A hi I ⟨g,0,ao⟩ n cap xs k.1 p a m c b r d (by omega) (by omega) (growslice_fits (by omega) f),.inr rfl⟩
 obtain⟨h,w',K,C⟩:=one;refine⟨h,w',K,?_⟩;obtain⟨Q,w2,r1,r2,r3⟩:=key 0;rw[K 0]at r1;injection r1 with r1 H;subst r1;subst H;exact⟨r2,r3,C⟩
theorem Tryz.Jz:(Tryz.prog.info? 173).map (λi=>(i.zero,i.size,i.bytes))=aj (aj (.agg #[.int .i64 0,.bool az,.slice ao 0 0,.bool az,.bool az,.bool az,.bool az]),7,48):=by kernel_rfl
theorem Tryz.Lr:(Tryz.prog.info? 195).map (λi=>(i.zero,i.size,i.bytes))=aj (aj (.agg #[.int .i64 0,.int .i64 0,.slice ao 0 0]),3,40):=by kernel_rfl
end
section
abbrev Cells:=(Nat->Bool)×(Nat->Int)
def iW(s:Cells)(k:Nat):Option Int:=if s.1 k then aj (s.2 k)else ao
theorem Cm(s:Cells)(k:Nat)(x:Int)(j:Nat):iW (upd s.1 k ak,upd s.2 k x) j=if j=k then aj x else iW s j:=by by_cases h:j=k<;>simp[iW,upd,h]
theorem DD(s:Cells)(k j:Nat):iW (upd s.1 k az,s.2) j=if j=k then ao else iW s j:=by by_cases h:j=k<;>simp[iW,upd,h]
theorem W6(hs:Nat->Bool)(vl:Nat->Int)(k:Nat):valOf hs vl k=(iW (hs,vl) k).getD 0:=by cases h:hs k<;>simp[valOf,iW,h]
theorem Aj(hs:Nat->Bool)(vl:Nat->Int)(k:Nat):hs k=(iW (hs,vl) k).isSome:=by cases h:hs k<;>simp[iW,h]
theorem Mm{s s':Cells}{k:Nat}(h:iW s k=iW s' k):s.1 k=s'.1 k/\(s.1 k=ak->s.2 k=s'.2 k):=by unfold iW at h;cases a:s.1 k<;>cases b:s'.1 k<;>simp_all
theorem MJ{hs a:Nat->Bool}{vl b:Nat->Int}{lo:Nat}:∀{n:Nat},(∀j,j<n->iW (hs,vl) (lo+j)=iW (a,b) (lo+j))->mJ hs vl lo n=mJ a b lo n|0,_=>rfl|n+1,h=>by have f:=MJ (n:=n) (λj g=>h j (by omega));obtain⟨d,c⟩:=Mm (h n (by omega));simp only at d c;simp only[mJ,f,<-d];split;(·rename_i e;rw[c e]);·rfl
theorem Q7{hs a:Nat->Bool}{vl b:Nat->Int}{lo:Nat}:∀{n:Nat},(∀j,j<n->iW (hs,vl) (lo+j)=iW (a,b) (lo+j))->n7 hs lo n=n7 a lo n|0,_=>rfl|n+1,h=>by have c:=Q7 (n:=n) (λj e=>h j (by omega));obtain⟨d,f⟩:=Mm (h n (by omega));simp only at d;simp only[n7]at c⊢;simp only[ju,c,d]
structure xZ(t:iV)(m m':jq):Prop where
 ab:m.ab=m'.ab
 r:m.r=m'.r
 ch:m.ch=m'.ch
 nx:m.nx=m'.nx
 c:∀k:Nat,lh t k=true->iW (m.hs,m.vl) k=iW (m'.hs,m'.vl) k
theorem Iw{t:iV}{k:Int}(h:hasB t.nr t.r k=ak\/hasB t.nw t.wr k=ak):lh t k=ak:=by rcases h with h|h<;>simp[lh,h]
theorem BM{t:iV}(h:lX t=ak):oG t.nr t.r=ak/\oG t.nw t.wr=ak/\sD t.ng t.g=ak/\t.nc<=16/\jU (ry t) t.nc=ak:=by simp only[lX,xn,ae,decide_eq_true_eq]at h;exact⟨h.1.1.1,h.1.1.2,h.1.2,h.2.1,h.2.2⟩
theorem Hu{n lo hi:Int}(h:jf n lo hi=ak)(a:0<=lo):∃k:Nat,n=k/\lo<=k/\(k:Int)<=hi:=by simp only[jf,ae,decide_eq_true_eq]at h;exact⟨n.toNat,by omega,by omega,by omega⟩
theorem BF{n:Nat}{f:Nat->Int}{x:Int}(h:hasB n f x=ak)(hk:oG n f=ak):∃k:Nat,x=k/\k<100:=by obtain⟨i,hi,a⟩:=uC h;simp only[oG,ae]at hk;have:=nA hk.2 hi;rw[beq_iff_eq]at a;rw[a]at this;obtain⟨k,rfl,_,b⟩:=Hu this (ar 0);exact⟨k,rfl,by omega⟩
theorem L6{t:iV}(h:lX t=ak){j:Nat}(b:j<t.ng):∃lo hi:Nat,t.g (2*j)=lo/\t.g (2*j+1)=hi/\lo<=hi/\hi<=99:=by have:=(BM h).2.2.1;simp only[sD,ae]at this;have:=nA this.2 b;simp only[qp,ae,decide_eq_true_eq]at this;obtain⟨⟨a,c⟩,f⟩:=this;obtain⟨lo,e1,d,e⟩:=Hu a (ar 0);obtain⟨hi,e2,b1,b2⟩:=Hu c (ar 0);exact⟨lo,hi,e1,e2,by omega,by omega⟩
theorem Of{t:iV}(h:lX t=ak){k:Nat}(hk:lh t k=ak):k<100:=by
 obtain⟨d,b,f,_,_⟩:=BM h;simp only[lh,aI]at hk;rcases hk with(hk|hk)|hk;·obtain⟨j,e,a⟩:=BF hk d;omega
 ·obtain⟨j,a,c⟩:=uC hk;obtain⟨lo,hi,e1,e2,_,_⟩:=L6 h a;simp only[vj,e1,e2,ae,decide_eq_true_eq]at c;omega
 ·obtain⟨j,e,a⟩:=BF hk b;omega
theorem PY{t:iV}(h:lX t=ak){X:Int}(a:jf X 0 (t.ng-1)=ak){j:Nat}(b:j<uM t X+1-rv t X):lh t ((rv t X+j:Nat):Int)=ak:=by obtain⟨x,rfl,_,e⟩:=Hu a (ar 0);obtain⟨lo,hi,e1,e2,d,c⟩:=L6 h (j:=x) (by omega);simp only[rv,uM,aF,e1,e2]at b⊢;have:kG (vj t ((lo+j:Nat):Int)) t.ng=ak:=ph (k:=x) (by omega) (by simp only[vj,e1,e2,ae,decide_eq_true_eq];omega);unfold lh;rw[this];simp
theorem xZ.step{t:iV}(T:lX t=ak){m m':jq}(h:xZ t m m')(f:m.nx<t.nc):xZ t (mS t m) (mS t m'):=by
 obtain⟨k1,k2,k3,k4,k5⟩:=BM T;have d:=nA k5 f;unfold ry at d;obtain⟨e1,e2,e3,i,e5⟩:=h;unfold mS;rw[<-i];generalize t.c (4*m.nx)=K at*;generalize t.c (4*m.nx+1)=A at*;generalize t.c (4*m.nx+2)=X at*;generalize t.c (4*m.nx+3)=C at*;unfold nW at d;unfold rO;by_cases c1:K=1;·simp only[if_pos c1];exact⟨e1,by simp only[e2],e3,rfl,e5⟩
 simp only[if_neg c1]at d⊢;by_cases c2:K=2;·simp only[if_pos c2]at d⊢;simp only[ae,aI]at d;(have hk:∃k:Nat,X=k/\k<100:=by rcases d.2 with h|h;(·exact BF h k1);·exact BF h k2);obtain⟨k,rfl,_⟩:=hk;refine⟨e1,?_,e3,rfl,e5⟩;simp only[W6,e2,aF,e5 k (Iw d.2)]
 simp only[if_neg c2]at d⊢;by_cases c3:K=3;·simp only[if_pos c3]at d⊢;refine⟨e1,e2,by simp only[e3,e2],rfl,λk hk=>?_⟩;have a:=Cm (m.hs,m.vl) A.toNat (m.r X.toNat) k;have b:=Cm (m'.hs,m'.vl) A.toNat (m'.r X.toNat) k;simp only at a b⊢;rw[a,b,e2,e5 k hk]
 simp only[if_neg c3]at d⊢;by_cases c4:K=4;·simp only[if_pos c4]at d⊢;refine⟨e1,e2,by simp only[e3],rfl,λk hk=>?_⟩;have a:=DD (m.hs,m.vl) A.toNat k;have b:=DD (m'.hs,m'.vl) A.toNat k;simp only at a b⊢;rw[a,b,e5 k hk]
 simp only[if_neg c4]at d⊢;by_cases c5:K=5;·simp only[if_pos c5]at⊢;simp only[if_pos (Or.inl c5:K=5\/K=6),ae]at d;refine⟨e1,?_,e3,rfl,e5⟩;simp only[e2];rw[MJ (λj e=>e5 _ (PY T d.2 e))]
 simp only[if_neg c5]at⊢;by_cases c6:K=6;·simp only[if_pos c6]at⊢;simp only[if_pos (Or.inr c6:K=5\/K=6),ae]at d;refine⟨e1,?_,e3,rfl,e5⟩;simp only[e2];rw[Q7 (λj e=>e5 _ (PY T d.2 e))]
 simp only[if_neg c6]at⊢;by_cases c7:K=7;·simp only[if_pos c7];exact⟨e1,by simp only[e2],e3,rfl,e5⟩
 simp only[if_neg c7]at⊢;by_cases g:K=8;·simp only[if_pos g];exact⟨e1,by simp only[e2],e3,rfl,e5⟩
 simp only[if_neg g]at⊢;by_cases c9:K=9;·simp only[if_pos c9];exact⟨e1,e2,e3,by simp only[e2],e5⟩
 simp only[if_neg c9];exact⟨rfl,e2,rfl,rfl,e5⟩
theorem xZ.run{t:iV}(T:lX t=ak):∀(f:Nat){m m':jq},xZ t m m'->xZ t (runM t f m) (runM t f m')|0,_,_,h=>h|f+1,m,m',h=>by unfold runM;by_cases a:m.nx<t.nc;(·rw[if_pos a,if_pos (by rw[<-h.nx];exact a)];exact xZ.run T f (h.step T a));·rw[if_neg a,if_neg (by rw[<-h.nx];exact a)];exact h
def yh(k:Nat)(o:Option Int)(x:om):Option Int:=if x.key=k then(if x.del then ao else aj x.val)else o
structure yv(t:iV)(s:Cells)(m:jq):Prop where
 c:∀k,m.ab=false->iW (m.hs,m.vl) k=m.ch.foldl (yh k) (iW s k)
 w:∀x∈m.ch,hasB t.nw t.wr (x.key:Int)=true
 a:m.ab=true->m.ch=[]/\t.nc<=m.nx
theorem yv.step{t:iV}(T:lX t=ak){s:Cells}{m:jq}(h:yv t s m)(l:m.nx<t.nc):yv t s (mS t m):=by
 obtain⟨k1,k2,k3,k4,k5⟩:=BM T;have d:=nA k5 l;unfold ry at d;obtain⟨i,f,o⟩:=h;have b:m.ab=az:=by cases e:m.ab with|false=>rfl|true=>have:=(o e).2;omega
 unfold mS;generalize t.c (4*m.nx)=K at*;generalize t.c (4*m.nx+1)=A at*;generalize t.c (4*m.nx+2)=X at*;generalize t.c (4*m.nx+3)=C at*;unfold nW at d;unfold rO;by_cases c1:K=1;·simp only[if_pos c1];exact⟨i,f,λe=>by simp only at e;rw[b]at e;cases e⟩
 simp only[if_neg c1]at d⊢;by_cases c2:K=2;·simp only[if_pos c2];exact⟨i,f,λe=>by simp only at e;rw[b]at e;cases e⟩
 simp only[if_neg c2]at d⊢;by_cases c3:K=3;·simp only[if_pos c3,ae]at d⊢;obtain⟨k,rfl,_⟩:=BF d.1 k2;refine⟨λj _=>?_,λx g=>?_,λe=>by simp only at e;rw[b]at e;cases e⟩;(·have a:=Cm (m.hs,m.vl) (k:Int).toNat (m.r X.toNat) j;simp only[aF]at a⊢;rw[a,i j b,aW];simp only[aZ,yh];by_cases e:j=k;(·simp[e]);·simp[e,Ne.symm e]);·simp only[aM,aN]at g;rcases g with g|rfl;(·exact f x g);·simpa using d.1
 simp only[if_neg c3]at d⊢;by_cases c4:K=4;·simp only[if_pos c4]at d⊢;obtain⟨k,rfl,_⟩:=BF d k2;refine⟨λj _=>?_,λx g=>?_,λe=>by simp only at e;rw[b]at e;cases e⟩;(·have a:=DD (m.hs,m.vl) (k:Int).toNat j;simp only[aF]at a⊢;rw[a,i j b,aW];simp only[aZ,yh];by_cases e:j=k;(·simp[e]);·simp[e,Ne.symm e]);·simp only[aM,aN]at g;rcases g with g|rfl;(·exact f x g);·simpa using d
 simp only[if_neg c4]at d⊢;by_cases c5:K=5;·simp only[if_pos c5];exact⟨i,f,λe=>by simp only at e;rw[b]at e;cases e⟩
 simp only[if_neg c5]at⊢;by_cases c6:K=6;·simp only[if_pos c6];exact⟨i,f,λe=>by simp only at e;rw[b]at e;cases e⟩
 simp only[if_neg c6]at⊢;by_cases c7:K=7;·simp only[if_pos c7];exact⟨i,f,λe=>by simp only at e;rw[b]at e;cases e⟩
 simp only[if_neg c7]at⊢;by_cases n:K=8;·simp only[if_pos n];exact⟨i,f,λe=>by simp only at e;rw[b]at e;cases e⟩
 simp only[if_neg n]at⊢;by_cases c9:K=9;·simp only[if_pos c9];exact⟨i,f,λe=>by simp only at e;rw[b]at e;cases e⟩
 simp only[if_neg c9];exact⟨λk e=>by simp at e,by simp,λ_=>⟨rfl,au _⟩⟩
theorem yv.run{t:iV}(T:lX t=ak){s:Cells}:∀(f:Nat){m:jq},yv t s m->yv t s (runM t f m)|0,_,h=>h|f+1,m,h=>by unfold runM;by_cases a:m.nx<t.nc;(·rw[if_pos a];exact yv.run T f (h.step T a));·rw[if_neg a];exact h
theorem Ii{t:iV}(T:lX t=ak)(s:Cells):yv t s (nU t s):=yv.run T _ ⟨λk _=>rfl,by simp,λe=>by cases e⟩
theorem NB{t:iV}(T:lX t=ak)(s:Cells)(k:Nat):iW (qk t s) k=(nU t s).ch.foldl (yh k) (iW s k):=by
 have h:=Ii T s;unfold qk;split;·rename_i e;rw[(h.a e).1];rfl
 ·rename_i e;exact h.c k (by simpa using e)
theorem H3{k:Nat}:∀(l:List om)(o:Option Int),(∀x∈l,x.key≠k)->l.foldl (yh k) o=o|[],_,_=>rfl|x::l,o,h=>by simp only[aZ];rw[show yh k o x=o from if_neg (h x (by simp))];exact H3 l o (λy a=>h y (by simp[a]))
theorem VA{t:iV}(T:lX t=ak)(s:Cells){k:Nat}(hk:hasB t.nw t.wr (k:Int)=az):iW (qk t s) k=iW s k:=by rw[NB T];refine H3 _ _ (λx a e=>?_);have:=(Ii T s).w x a;rw[e,hk]at this;cases this
theorem KC(D:jb)(p k:Nat):∀(l:List om)(s:Cells),iW (ue D p s l) k=if ki D k=p then l.foldl (yh k) (iW s k)else iW s k|[],s=>by simp[ue]|x::l,s=>by have b:=KC D p k l (Aq D p s x);simp only[ue,aZ]at b⊢;rw[b];(have one:iW (Aq D p s x) k=if ki D k=p then yh k (iW s k) x else iW s k:=by unfold Aq yh;by_cases e:x.key=k;(·subst e;by_cases h:ki D x.key=p;(·simp only[if_pos h];split;(·rw[DD];simp);·rw[Cm];simp);·simp only[if_neg h]);·have a:¬k=x.key:=λh=>e h.symm;(have c:iW (if ki D x.key=p then(if x.del then(upd s.1 x.key az,s.2)else(upd s.1 x.key ak,upd s.2 x.key x.val))else s) k=iW s k:=by split;(·split;(·rw[DD,if_neg a]);·rw[Cm,if_neg a]);·rfl);rw[c];simp[e]);rw[one];split;(·simp);·simp
theorem YU{f:Nat->Option Int}{k:Nat}(l:List (Nat×Int))(d:∀x∈l,f x.1=aj x.2)(b:∀v,f k=aj v->(k,v)∈l):iW (zS l) k=f k:=by
 have a:∀(l:List (Nat×Int))(s:Cells),(∀x∈l,f x.1=aj x.2)->iW (l.foldl (λs p=>(upd s.1 p.1 ak,upd s.2 p.1 p.2)) s) k=if l.any (λx=>x.1==k)then f k else iW s k:=by intro l;induction l with|nil=>intro s _;simp|cons x l c=>intro s h;simp only[aZ];rw[c _ (λy g=>h y (by simp[g])),Cm];by_cases e:k=x.1;(·subst e;simp[h x (by simp)]);·(have:(x.1==k)=az:=by simpa using Ne.symm e);simp only[List.any_cons,this,Bool.false_or,if_neg e]
 have:=a l (λ_=>az,λ_=>0) d;rw[show zS l=l.foldl (λs p=>(upd s.1 p.1 ak,upd s.2 p.1 p.2)) (λ_=>az,λ_=>0)from rfl,this];cases e:f k with|none=>split<;>rfl|some v=>rw[if_pos];rw[List.any_eq_true];exact⟨(k,v),b v e,by simp⟩
theorem Us{t:iV}(T:lX t=ak)(s:Cells)(l:List (Nat×Int))(c:∀x∈l,iW s x.1=aj x.2)(a:∀k v,lh t (k:Nat)=ak->iW s k=aj v->(k,v)∈l):xZ t (mn t l) (nU t s):=xZ.run T _ ⟨rfl,rfl,rfl,rfl,λk hk=>YU (f:=iW s) l c (λv b=>a k v hk b)⟩
theorem zN(hs:Nat->Bool)(vl:Nat->Int)(k:Nat)(v:Int):∀n,(k,v)∈jB hs vl n↔k<n/\iW (hs,vl) k=aj v|0=>by simp[jB]|n+1=>by simp only[jB,aM,zN hs vl k v n];cases e:hs n with|false=>simp only[iW];constructor;(·rintro(h|h);(·exact⟨by omega,h.2⟩);·simp at h);·rintro⟨b,a⟩;by_cases hk:k=n;(·subst hk;simp[e]at a);·exact .inl ⟨by omega,a⟩|true=>simp only[iW];constructor;(·rintro(h|h);(·exact⟨by omega,h.2⟩);·simp at h;obtain⟨rfl,rfl⟩:=h;exact⟨by omega,by simp[e]⟩);·rintro⟨b,a⟩;by_cases hk:k=n;(·subst hk;simp[e]at a;exact .inr (by simp[a]));·exact .inl ⟨by omega,a⟩
theorem Mp(t:iV)(hs:Nat->Bool)(vl:Nat->Int)(k:Nat)(v:Int):(k,v)∈yg t hs vl↔k<100/\iW (hs,vl) k=aj v/\lh t k=ak:=by simp only[yg,List.mem_filter,zN,and_assoc]
theorem xj(hs:Nat->Bool)(vl:Nat->Int):∀n,(jB hs vl n).length<=n|0=>au _|n+1=>by have:=xj hs vl n;simp only[jB,bg];split<;>simp<;>omega
theorem VW(t:iV)(hs:Nat->Bool)(vl:Nat->Int):(yg t hs vl).length<=100:=aY (List.length_filter_le _ _) (xj _ _ _)
end
end Go.Proofs.YtldeiiffabfmeaaGreatDoor
