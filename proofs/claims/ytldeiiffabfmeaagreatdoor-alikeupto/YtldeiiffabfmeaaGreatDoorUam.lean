/- - -/
import Derived.Conc.WgGenN2
set_option linter.all false
set_option maxRecDepth 100000
set_option maxHeartbeats 4000000
open Go renaming World->a,Goroutine->b,Program->c,TypeId->d
namespace Go.Rel
section
open Go.Conc Go.ConcN Go.RowKit Go.Conc.Lib Go.ConcR.Gen Go.ConcN.Gen
open Go.ConcR(KK wgBlock WgAt stA smA rd wr mk Payload DC0)
variable[Payload]{L:WgLink}{P:c}
def RA(ty:d)(Wg:Nat)(w e:a):Prop:=WgLive ty Wg w->WgLive ty Wg e
def iC{ty:d}{Wg:Nat}{w e:a}(h:WgLive ty Wg w)(r:RA ty Wg w e):WgLive ty Wg e:=r h
def qv(P:c)(m:Mark)(f:b->a->Prop)(g:b)(w:a):Prop:=g.status=.running/\∃e,stepG P true g w=.go e w #[mk m]/\f e w
def lU(P:c)(ty:d)(Wg:Nat)(Stop:b->a->Prop)(g:b)(w:a):Prop:=∃m,Goes P true (RA ty Wg) DC0 Stop m g w
def Lk(P:c)(ty:d)(Wg:Nat)(f:b->a->Prop)(g:b)(w:a):Prop:=g.status=.running/\∀v:Nat,v<2147483647->WgAt ty Wg w (v*KK) 0->∃e,stepG P true g w=.go e (w.setCell (stA Wg)<|.int .u64<|(v+1)*KK) #[rd<|stA Wg,wr<|stA Wg]/\f e (w.setCell (stA Wg)<|.int .u64<|(v+1)*KK)
omit[Payload]in theorem Gx{e:Bool}{R:a->a->Prop}{D:a->a->Array Event->Prop}{S:b->a->Prop}{n f:Nat}{g:b}{w:a}(h:Goes P e R D S n g w)(i:n<=f):Goes P e R D S f g w:=by induction i with|refl=>exact h|step _ j=>exact j.more
end
end Go.Rel
