import Derived.Test.YtecnfgikbmcgoabGreatG9
set_option maxHeartbeats 8000000
set_option maxRecDepth 100000
namespace Go.Proofs.YtecnfgikbmcgoabGreat
open Go.Proofs.Tryz
open Go.RowKit
open Go.Maps (Keyed)
open Go.ChangeMaps (setBlock)
variable {B clock clock' j:Nat}{es es':Array MapEntry}{l1 l2:List MapEntry}{v':Value}{w w2:World}
def uN(qs:Nat->Nat->List Mm)(a b:Nat)(l:List Mm):Nat->Nat->List Mm:=fun x y=>if x=a/\y=b then qs x y++l else qs x y
def mO(qs:Nat->Nat->List Mm)(a b:Nat):Nat->Nat->List Mm:=fun x y=>if x=a/\y=b then(qs x y).tail else qs x y
theorem zF{m1 m2:List (Value×Value)}{k v:Value}(h:((m1++(k,v)::m2).map Prod.fst).Nodup){x:Value×Value}(hx:x∈m1\/x∈m2):x.1≠k:=by
 simp only[aS,bH] at h;rw[dF] at h;obtain⟨_,h2,h3⟩:=h;rcases hx with hx|hx
 ·exact h3 _ (aC.2 ⟨x,hx,rfl⟩) k (by simp)
 ·intro e;have:=(fB.1 h2).1;exact this (aC.2 ⟨x,hx,e⟩)
section
variable {T:Tc}{r:Nat->Rl}{w:World}{Xs:Nat->List Hm}{qs:Nat->Nat->List Mm}{cls:List Cl}
theorem Tm.send(h:Tm T r w Xs qs cls){a b:Nat}(x:Mm)(hx:qY r w x){m1 m2:List (Value×Value)}{v:Value}(hm:Mp prog 30 w T.LB (m1++(pk ((a:Int),(b:Int)),v)::m2) es clock)(hall:∀k u,(k,u)∈m1++(pk ((a:Int),(b:Int)),v)::m2->∃a b:Nat,k=pk ((a:Int),(b:Int))/\T.adj a b=true/\Qr w 149 4 (fun k=>r k=.qu a b) u (qs a b).length ((qs a b).flatMap iE))(hev:∀a' b':Nat,T.adj a' b'=true->∃u,(pk ((a':Int),(b':Int)),u)∈m1++(pk ((a:Int),(b:Int)),v)::m2)(hv:Qr w 149 4 (fun k=>r k=.qu a b) v (qs a b).length ((qs a b).flatMap iE))(hab:T.adj a b=true)(g:w.grownBy w2 v.ownBlock)(hq:Qr w2 149 4 (fun k=>v'.ownBlock=some k) v' ((qs a b).length+1) ((qs a b).flatMap iE++iE x))(hat:v'.ownBlock=v.ownBlock\/∃k,w.heap.size<=k/\v'.ownBlock=some k)(hm':Mp prog 30 (setBlock w2 T.LB (.map es' clock')) T.LB (m1++(pk ((a:Int),(b:Int)),v')::m2) es' clock'):∃r',Tm T r' (setBlock w2 T.LB (.map es' clock')) Xs (uN qs a b [x]) cls/\Fr r r' w (setBlock w2 T.LB (.map es' clock')):=by
 have hlt:=hm.lt;have hown:∀k,v.ownBlock=some k->r k=.qu a b/\k<w.heap.size:=fun k hk=>hv.own k hk;have hown':∀k,k<w.heap.size->v'.ownBlock=some k->r k=.qu a b:=fun k hk e=>by
  rcases hat with h1|⟨q,h1,h2⟩
  ·rw[h1] at e;exact(hown k e).1
  ·rw[h2] at e;injection e with e;omega
 have hs:w.heap.size<=(setBlock w2 T.LB (.map es' clock')).heap.size:=by simp only[setBlock];simpa using g.size
 have hsame:∀k,k<w.heap.size->(if v'.ownBlock=some k then Rl.qu a b else r k)=r k:=by
  intro k hk;split
  ·rename_i e;exact(hown' k hk e).symm
  ·rfl
 have hkeep:∀k,k<w.heap.size->r k≠.lm->r k≠.qu a b->(setBlock w2 T.LB (.map es' clock')).heap[k]?=w.heap[k]?:=by intro k hk h1 h2;rw[gR (fun e=>h1 (by rw[e];exact h.l.lm))];exact g.block k hk (fun e=>h2 (hown k e.symm).1)
 have htop:∀k,(setBlock w2 T.LB (.map es' clock')).heap.size<=k->(if v'.ownBlock=some k then Rl.qu a b else r k)=.no:=by
  intro k hk;have hk2:w2.heap.size<=k:=by simp only[setBlock] at hk;simpa using hk
  rw[if_neg (fun e=>by have:=(hq.own k e).2;omega)];exact h.b.top k (aA g.size hk2)
 have nl:∀{k:Nat},r k=.fx->r k≠.lm/\r k≠.qu a b:=fun e=>⟨by rw[e];exact fun e=>(by cases e),by rw[e];exact fun e=>(by cases e)⟩;refine⟨fun k=>if v'.ownBlock=some k then .qu a b else r k,⟨h.b.keep hs (fun k hk hr=>?_) hsame htop,h.h.keep hs (fun k hk hr=>?_) hsame,⟨?_,⟨_,es',clock',hm',fun k u hu=>?_,fun a' b' hab'=>?_⟩,fun a' b' y hy=>?_,fun a' b' hf=>?_⟩,h.k.keep hs (fun k hk hr=>?_) hsame⟩,⟨g.os,g.tape,g.output,hs,fun k hk hr=>?_,hsame⟩⟩
 ·rcases hr with hr|hr
  ·exact hkeep k hk (by rw[hr];exact fun e=>by cases e) (by rw[hr];exact fun e=>by cases e)
  ·exact hkeep k hk (nl hr).1 (nl hr).2
 ·rcases hr with hr|⟨c,hr⟩
  ·exact hkeep k hk (nl hr).1 (nl hr).2
  ·exact hkeep k hk (by rw[hr];exact fun e=>by cases e) (by rw[hr];exact fun e=>by cases e)
 ·exact(hsame _ hlt).trans h.l.lm
 ·have hside:∀y:Value×Value,y∈m1\/y∈m2->∃a' b':Nat,y.1=pk ((a':Int),(b':Int))/\T.adj a' b'=true/\Qr (setBlock w2 T.LB (.map es' clock')) 149 4 (fun k=>(if v'.ownBlock=some k then Rl.qu a b else r k)=.qu a' b') y.2 (uN qs a b [x] a' b').length ((uN qs a b [x] a' b').flatMap iE):=by
   intro y hy;have hmem:(y.1,y.2)∈m1++(pk ((a:Int),(b:Int)),v)::m2:=by
    rcases hy with hy|hy
    ·exact aE.2 (Or.inl hy)
    ·exact aE.2 (Or.inr (aN.2 (Or.inr hy)))
   obtain⟨a',b',e,ha,hQ⟩:=hall _ _ hmem;have hne:=zF hm.nod hy;have hnn:¬(a'=a/\b'=b):=fun ee=>hne (by rw[e,ee.1,ee.2]);refine⟨a',b',e,ha,?_⟩;rw[show uN qs a b [x] a' b'=qs a' b' from if_neg hnn];refine hQ.kept fun gg hg hR=>⟨hkeep gg hg (by rw[hR];exact fun e=>by cases e) (by rw[hR];intro e;injection e with e1 e2;exact hnn ⟨e1,e2⟩),(hsame gg hg).trans hR⟩
  rcases aE.1 hu with hu|hu
  ·exact hside (k,u) (Or.inl hu)
  ·rcases aN.1 hu with hu|hu
   ·injection hu with e1 e2;subst e2;refine⟨a,b,e1,hab,?_⟩;rw[show uN qs a b [x] a b=qs a b++[x] from if_pos ⟨rfl,rfl⟩,aG,List.flatMap_append];(have hx1:[x].flatMap iE=iE x:=by simp);rw[hx1];refine hq.kept fun gg hg hR=>⟨gR (fun e=>?_),if_pos hR⟩;subst e;have:=hown' _ hlt hR;rw[h.l.lm] at this;cases this
   ·exact hside (k,u) (Or.inr hu)
 ·obtain⟨u,hu⟩:=hev a' b' hab';rcases aE.1 hu with hu|hu
  ·exact⟨u,aE.2 (Or.inl hu)⟩
  ·rcases aN.1 hu with hu|hu
   ·injection hu with e1 e2;exact⟨v',aE.2 (Or.inr (aN.2 (Or.inl (by rw[e1]))))⟩
   ·exact⟨u,aE.2 (Or.inr (aN.2 (Or.inr hu)))⟩
 ·have hk2:∀y:Mm,qY r w y->qY (fun k=>if v'.ownBlock=some k then .qu a b else r k) (setBlock w2 T.LB (.map es' clock')) y:=fun y hy=>hy.keep hs (fun k hk hr=>hkeep k hk (nl hr).1 (nl hr).2) hsame;unfold uN at hy;split at hy
  ·rcases aE.1 hy with hy|hy
   ·exact hk2 y (h.l.ms a' b' y hy)
   ·rw[aM.1 hy];exact hk2 x hx
  ·exact hk2 y (h.l.ms a' b' y hy)
 ·have hnn:¬(a'=a/\b'=b):=fun ee=>by rw[ee.1,ee.2,hab] at hf;cases hf
  rw[show uN qs a b [x] a' b'=qs a' b' from if_neg hnn];exact h.l.nq a' b' hf
 ·rcases hr with⟨c,i,hr⟩|hr|⟨c,hr⟩|⟨c,hr⟩;all_goals exact hkeep k hk (by rw[hr];exact fun e=>by cases e) (by rw[hr];exact fun e=>by cases e)
 ·rcases hr with hr|hr
  ·exact hkeep k hk (by rw[hr];exact fun e=>by cases e) (by rw[hr];exact fun e=>by cases e)
  ·exact hkeep k hk (nl hr).1 (nl hr).2
theorem Tm.pop(h:Tm T r w Xs qs cls){a b:Nat}{x:Mm}{rest:List Mm}(hqs:qs a b=x::rest){m1 m2:List (Value×Value)}{v:Value}(hm:Mp prog 30 w T.LB (m1++(pk ((a:Int),(b:Int)),v)::m2) es clock)(hall:∀k u,(k,u)∈m1++(pk ((a:Int),(b:Int)),v)::m2->∃a b:Nat,k=pk ((a:Int),(b:Int))/\T.adj a b=true/\Qr w 149 4 (fun k=>r k=.qu a b) u (qs a b).length ((qs a b).flatMap iE))(hev:∀a' b':Nat,T.adj a' b'=true->∃u,(pk ((a':Int),(b':Int)),u)∈m1++(pk ((a:Int),(b:Int)),v)::m2)(hab:T.adj a b=true){g:Nat}(hg:r g=.qu a b)(ho:∀k,k≠g->w2.heap[k]?=w.heap[k]?)(hsz:w2.heap.size=w.heap.size)(h1:w2.os=w.os)(h2:w2.tape=w.tape)(h3:w2.output=w.output)(hq:Qr w2 149 4 (fun k=>r k=.qu a b) v' rest.length (rest.flatMap iE))(hm':Mp prog 30 (setBlock w2 T.LB (.map es' clock')) T.LB (m1++(pk ((a:Int),(b:Int)),v')::m2) es' clock'):Tm T r (setBlock w2 T.LB (.map es' clock')) Xs (mO qs a b) cls/\Fr r r w (setBlock w2 T.LB (.map es' clock')):=by
 have hpop:mO qs a b a b=rest:=by unfold mO;rw[if_pos ⟨rfl,rfl⟩,hqs];rfl
 have hs:w.heap.size<=(setBlock w2 T.LB (.map es' clock')).heap.size:=by simp only[setBlock];simpa using Nat.le_of_eq hsz.symm
 have hkeep:∀k,r k≠.lm->r k≠.qu a b->(setBlock w2 T.LB (.map es' clock')).heap[k]?=w.heap[k]?:=by intro k h1 h2;rw[gR (fun e=>h1 (by rw[e];exact h.l.lm))];exact ho k (fun e=>h2 (by rw[e];exact hg))
 have htop:∀k,(setBlock w2 T.LB (.map es' clock')).heap.size<=k->r k=.no:=fun k hk=>h.b.top k (aA hs hk);have nl:∀{k:Nat},r k=.fx->r k≠.lm/\r k≠.qu a b:=fun e=>⟨by rw[e];exact fun e=>(by cases e),by rw[e];exact fun e=>(by cases e)⟩;have hsame:∀k,k<w.heap.size->r k=r k:=fun _ _=>rfl;refine⟨⟨h.b.keep hs (fun k hk hr=>?_) hsame htop,h.h.keep hs (fun k hk hr=>?_) hsame,⟨h.l.lm,⟨_,es',clock',hm',fun k u hu=>?_,fun a' b' hab'=>?_⟩,fun a' b' y hy=>?_,fun a' b' hf=>?_⟩,h.k.keep hs (fun k hk hr=>?_) hsame⟩,⟨h1,h2,h3,hs,fun k hk hr=>?_,hsame⟩⟩
 ·rcases hr with hr|hr
  ·exact hkeep k (by rw[hr];exact fun e=>by cases e) (by rw[hr];exact fun e=>by cases e)
  ·exact hkeep k (nl hr).1 (nl hr).2
 ·rcases hr with hr|⟨c,hr⟩
  ·exact hkeep k (nl hr).1 (nl hr).2
  ·exact hkeep k (by rw[hr];exact fun e=>by cases e) (by rw[hr];exact fun e=>by cases e)
 ·have hside:∀y:Value×Value,y∈m1\/y∈m2->∃a' b':Nat,y.1=pk ((a':Int),(b':Int))/\T.adj a' b'=true/\Qr (setBlock w2 T.LB (.map es' clock')) 149 4 (fun k=>r k=.qu a' b') y.2 (mO qs a b a' b').length ((mO qs a b a' b').flatMap iE):=by
   intro y hy;have hmem:(y.1,y.2)∈m1++(pk ((a:Int),(b:Int)),v)::m2:=by
    rcases hy with hy|hy
    ·exact aE.2 (Or.inl hy)
    ·exact aE.2 (Or.inr (aN.2 (Or.inr hy)))
   obtain⟨a',b',e,ha,hQ⟩:=hall _ _ hmem;have hne:=zF hm.nod hy;have hnn:¬(a'=a/\b'=b):=fun ee=>hne (by rw[e,ee.1,ee.2]);refine⟨a',b',e,ha,?_⟩;rw[show mO qs a b a' b'=qs a' b' from if_neg hnn];refine hQ.kept fun gg _ hR=>⟨hkeep gg (by rw[hR];exact fun e=>by cases e) (by rw[hR];intro e;injection e with e1 e2;exact hnn ⟨e1,e2⟩),hR⟩
  rcases aE.1 hu with hu|hu
  ·exact hside (k,u) (Or.inl hu)
  ·rcases aN.1 hu with hu|hu
   ·injection hu with e1 e2;subst e2;refine⟨a,b,e1,hab,?_⟩;rw[hpop];refine hq.kept fun gg _ hR=>⟨gR (fun e=>?_),hR⟩;subst e;rw[h.l.lm] at hR;cases hR
   ·exact hside (k,u) (Or.inr hu)
 ·obtain⟨u,hu⟩:=hev a' b' hab';rcases aE.1 hu with hu|hu
  ·exact⟨u,aE.2 (Or.inl hu)⟩
  ·rcases aN.1 hu with hu|hu
   ·injection hu with e1 e2;exact⟨v',aE.2 (Or.inr (aN.2 (Or.inl (by rw[e1]))))⟩
   ·exact⟨u,aE.2 (Or.inr (aN.2 (Or.inr hu)))⟩
 ·have hk2:∀y:Mm,qY r w y->qY r (setBlock w2 T.LB (.map es' clock')) y:=fun y hy=>hy.keep hs (fun k hk hr=>hkeep k (nl hr).1 (nl hr).2) hsame;unfold mO at hy;split at hy
  ·exact hk2 y (h.l.ms a' b' y (List.mem_of_mem_tail hy))
  ·exact hk2 y (h.l.ms a' b' y hy)
 ·have hnn:¬(a'=a/\b'=b):=fun ee=>by rw[ee.1,ee.2,hab] at hf;cases hf
  rw[show mO qs a b a' b'=qs a' b' from if_neg hnn];exact h.l.nq a' b' hf
 ·rcases hr with⟨c,i,hr⟩|hr|⟨c,hr⟩|⟨c,hr⟩;all_goals exact hkeep k (by rw[hr];exact fun e=>by cases e) (by rw[hr];exact fun e=>by cases e)
 ·rcases hr with hr|hr
  ·exact hkeep k (by rw[hr];exact fun e=>by cases e) (by rw[hr];exact fun e=>by cases e)
  ·exact hkeep k (nl hr).1 (nl hr).2
theorem Tm.turn(h:Tm T r w Xs qs cls){b:Nat}(hb:b<T.nb)(X':List Hm)(hm':Mp prog 97 (setBlock w (T.MB b) (.map es' clock')) (T.MB b) (X'.map mv) es' clock')(hfi:∀x∈X',FiR r w x.2.1 x.1.f/\I64 x.1.key.1/\I64 x.1.key.2):Tm T r (setBlock w (T.MB b) (.map es' clock')) (fun c=>if c=b then X' else Xs c) qs cls/\Fr r r w (setBlock w (T.MB b) (.map es' clock')):=by
 have hs:w.heap.size<=(setBlock w (T.MB b) (.map es' clock')).heap.size:=by simp[setBlock]
 have hrb:=(h.h.at' b hb).1;have hkeep:∀k,r k≠.hm b->(setBlock w (T.MB b) (.map es' clock')).heap[k]?=w.heap[k]?:=fun k h1=>gR (fun e=>h1 (by rw[e];exact hrb));have htop:∀k,(setBlock w (T.MB b) (.map es' clock')).heap.size<=k->r k=.no:=fun k hk=>h.b.top k (aA hs hk);have hsame:∀k,k<w.heap.size->r k=r k:=fun _ _=>rfl;have fi2:∀{ad:Option Addr}{f:List Wnt},FiR r w ad f->FiR r (setBlock w (T.MB b) (.map es' clock')) ad f:=fun hf=>hf.keep hs (fun k _ hr=>hkeep k (by rw[hr];exact fun e=>by cases e)) hsame;refine⟨⟨h.b.keep hs (fun k _ hr=>hkeep k ?_) hsame htop,⟨fun c hc=>?_,fun c hc x hx=>?_⟩,h.l.keep hs (fun k _ hr=>hkeep k ?_) hsame,h.k.keep hs (fun k _ hr=>hkeep k ?_) hsame⟩,⟨rfl,rfl,rfl,hs,fun k _ hr=>hkeep k ?_,hsame⟩⟩
 ·rcases hr with hr|hr<;>(rw[hr];exact fun e=>by cases e)
 ·by_cases hcb:c=b
  ·subst hcb;simp only[if_true];exact⟨hrb,es',clock',hm'⟩
  ·simp only[if_neg hcb];obtain⟨h1,es,clock,h2⟩:=h.h.at' c hc;exact⟨h1,es,clock,h2.kept (hkeep _ (by rw[h1];intro e;injection e with e;exact hcb e))⟩
 ·by_cases hcb:c=b
  ·subst hcb;simp only[if_true] at hx;exact⟨fi2 (hfi x hx).1,(hfi x hx).2⟩
  ·simp only[if_neg hcb] at hx;exact⟨fi2 (h.h.fi c hc x hx).1,(h.h.fi c hc x hx).2⟩
 ·rcases hr with hr|hr|⟨a,c,hr⟩<;>(rw[hr];exact fun e=>by cases e)
 ·rcases hr with⟨c,i,hr⟩|hr|⟨c,hr⟩|⟨c,hr⟩<;>(rw[hr];exact fun e=>by cases e)
 ·rcases hr with hr|hr<;>(rw[hr];exact fun e=>by cases e)
end
theorem Tm.set{T:Tc}{r:Nat->Rl}{Xs:Nat->List Hm}{qs:Nat->Nat->List Mm}{cls:List Cl}(h:Tm T r w Xs qs cls)(hB:r B=.no)(h0:B≠0)(u:Value):Tm T r (w.setCell ⟨B,j,none⟩ u) Xs qs cls:=by
 refine Tm.apart (r1:=fun k=>if k=B then .lm else .no) (r1':=fun k=>if k=B then .lm else .no) h ⟨rfl,rfl,rfl,by rw[gY];exact lZ,fun k _ hr=>Below.heap_setCell w _ u k ?_,fun _ _=>rfl⟩ (fun k=>?_) (if_neg (fun e=>h0 e.symm))
 ·intro e;have e:k=B:=e;simp only[e,if_true] at hr;rcases hr with hr|hr<;>cases hr
 ·by_cases hk:k=B
  ·exact Or.inl (by rw[hk];exact hB)
  ·exact Or.inr (if_neg hk)
theorem Fr.set{r r':Nat->Rl}{w':World}(h:Fr r r' w w')(hB:w.heap.size<=B)(u:Value):Fr r r' w (w'.setCell ⟨B,j,none⟩ u):=⟨h.os,h.tape,h.output,by rw[gY];exact h.size,fun k hk hr=>(Below.heap_setCell w' _ u k (by show k≠B;omega)).trans (h.keep k hk hr),h.same⟩
structure Vw(T:Tc)(Xs:Nat->List Hm)(qs:Nat->Nat->List Mm)(s:TS (List Wnt) (List Atr)):Prop where
 held:∀b,b<T.nb->∀h,h∈s.held b↔∃x∈Xs b,x.1=h
 q:∀a b,s.q a b=(qs a b).map Mm.ms
theorem vC{l l':List Hw}(h:∀g,g∈l↔g∈l')(n:Int)(x:Hw):isT cov l n x=isT cov l' n x:=by rw[eL,nV,nV];exact⟨fun k g hg=>k g ((h g).2 hg),fun k g hg=>k g ((h g).1 hg)⟩
theorem Ix{X L:List Hm}{l:List Hw}{n:Int}{h:Hw}(hs:Srt l)(hl:∀g,g∈l↔∃x∈X,x.1=g)(hL:L.Pairwise fun x y=>klt x.1.key y.1.key=true)(hm:∀x,x∈L↔x∈X/\woP X n h x=true):L.map (·.1)=woT cov l n h:=by
 have hc:∀g,g∈X.map (·.1)↔g∈l:=fun g=>by rw[hl g,aC]
 refine Srt.ext (cB.2 hL) (hs.filter _) (fun g=>?_);rw[aC];constructor
 ·rintro⟨x,hx,rfl⟩;obtain⟨h1,h2⟩:=(hm x).1 hx;refine aY.2 ⟨(hl _).2 ⟨x,h1,rfl⟩,?_⟩;unfold woP at h2;rw[vC hc] at h2;exact h2
 ·intro hg;obtain⟨h1,h2⟩:=aY.1 hg;obtain⟨x,hx,rfl⟩:=(hl g).1 h1;refine⟨x,(hm x).2 ⟨hx,?_⟩,rfl⟩;unfold woP;rw[vC hc];exact h2
theorem oP{P:Program}{ops:Array Oper}{Q:Exit->Act->World->Prop}{id:Nat}{a0:Act}{w0:World}(hm:P.follows .mixedOrders=true)(last:Nat)(hs:pK ops last=true)(dst:Nat->Nat)(hinj:∀i,i<last->∀j,j<last->dst i=dst j->i=j)(R:Nat->Value->World->Prop)(E:Act->Prop)(W:World->Prop)(Good:Nat->World->World->Prop)(hE:∀a i x,i<last->E a->E (a.put (some (dst i)) x))(hsize:∀a,E a->∀i,i<last->dst i<a.tmps.size)(hW:∀i w w',W w->Good i w w'->W w')(hR:∀i j x w w',i≠j->R j x w->Good i w w'->R j x w')(hfront:∀(i:Nat)(o:Oper)(a:Act)(w:World),ops[i]?=some o->i<last->E a->W w->(∀e∈o.after,Region.binds .any e=true->R e.on (a.eval (.tmp (dst e.on))) w)->∀K:Act->World->Prop,(∀x w',Good i w w'->R i x w'->K (a.put (some (dst i)) x) w')->o.wp P a w K Q)(hlast:∀(o:Oper)(a:Act)(w:World),ops[last]?=some o->E a->W w->(∀j,j<last->R j (a.eval (.tmp (dst j))) w)->∀K:Act->World->Prop,(∀a' w',Q .normal a' w'->K a' w')->o.wp P a w K Q)(h0:E a0)(hw0:W w0.drew):(Code.region id ops true).wp P Q a0 w0:=Fm hm last (oK hs) dst (fun i j hi hj h=>hinj i hi j hj h) (fun _ _ ho=>(nH hs ho).1) (fun _ _ ho=>(nH hs ho).2) (sO hs) R E W Good hE hsize hW hR hfront hlast h0 hw0
theorem Ar{o:Obj}(h:w.heap[B]?=some o):setBlock w B o=w:=by
 have hl:=(bL.1 h).1;have:w.heap.setIfInBounds B o=w.heap:=by
  apply Array.ext_getElem?;intro i;by_cases hi:B=i
  ·subst hi;rw[Array.getElem?_setIfInBounds_self,if_pos hl,h]
  ·rw[eX hi]
 unfold setBlock;rw[this]
section
variable {P:Program}{kt et mt:TypeId}{w:World}{B:Nat}{m:List (Value×Value)}{es:Array MapEntry}{clock:Nat}
theorem Mp.spl(h:Mp P kt w B m es clock){k v:Value}(hv:(k,v)∈m):∃(l1:List MapEntry)(e:MapEntry)(l2:List MapEntry),es.toList=l1++e::l2/\e.key=k/\e.val=v:=by rw[<-h.ent] at hv;obtain⟨e,he,hee⟩:=aC.1 hv;injection hee with h1 h2;obtain⟨l1,l2,hl⟩:=List.append_of_mem he;exact⟨l1,e,l2,hl,h1,h2⟩
theorem Mp.ent_of(h:Mp P kt w B m es clock){e:MapEntry}(hl:es.toList=l1++e::l2):m=l1.map (fun e=>(e.key,e.val))++(e.key,e.val)::l2.map (fun e=>(e.key,e.val)):=by rw[<-h.ent,hl];simp
theorem Mp.entry(K:Keyed P kt)(ht:P.underlying mt=some (.map kt et))(h:Mp P kt w B m es clock){e:MapEntry}(hl:es.toList=l1++e::l2){l:Lit}(hk:keyOf P kt e.key=some l):(Instr.mapEntry mt (.map (some B)) e.key).run P w=.ok (.tuple #[e.val,goInt e.born]) w:=by
 have hu:(underlying mt).run P w=.ok (.map kt et) w:=by simp[underlying,ht]
 have hg:(getObj B).run P w=.ok (.map es clock) w:=by simp[getObj,Sem.run,h.blk]
 have hc:=K.check w false hk;have hem:e∈es.toList:=by rw[hl];simp
 rcases K.find w hk es.toList h.key with⟨_,hno⟩|⟨j,e',hf,hj,hek⟩
 ·exact absurd rfl (hno e hem)
 ·have he':e'=e:=by have hd:=h.nod;rw[<-h.ent,bV] at hd;exact Wr hd (dD hj) hem hek
  subst he';have hj':es[j]?=some e':=by rw[<-cA];exact hj
  have hmod:(es.modify j fun x=>{ x with key:=e'.key })=es:=by
   apply Array.ext_getElem?;intro i;rw[Array.getElem?_modify];split
   ·rename_i hji;subst hji;rw[hj'];rfl
   ·rfl
  unfold Instr.mapEntry;simp only[Sem.run_bind,hu,cY,hg,hc,hf,hj',dE,eV,K.stays w hk,hmod,oN h.blk,Ar h.blk,Sem.run_pure]
theorem Mp.entry_put(h:Mp P kt w B m es clock){e:MapEntry}(hl:es.toList=l1++e::l2)(v:Value):∃es',(Instr.entryStore mt (.map (some B)) (goInt e.born) v).run P w=.ok () (setBlock w B (.map es' clock))/\Mp P kt (setBlock w B (.map es' clock)) B (l1.map (fun e=>(e.key,e.val))++(e.key,v)::l2.map (fun e=>(e.key,e.val))) es' clock:=by
 have hg:(getObj B).run P w=.ok (.map es clock) w:=by simp[getObj,Sem.run,h.blk]
 have hm:=h.ent_of hl;have hbn:=h.bnd;rw[hl] at hbn;have hne:∀x∈l1,¬x.born=e.born:=by intro x hx ee;simp only[aS,bH] at hbn;exact(dF.1 hbn).2.2 _ (aC.2 ⟨x,hx,rfl⟩) _ (by simp) ee
 have hfi:es.findIdx? (fun x=>(x.born:Int)==(e.born:Int))=some l1.length:=by
  have:es=(l1++e::l2).toArray:=by rw[<-hl]
  rw[this,List.findIdx?_toArray,List.findIdx?_append];have h1:l1.findIdx? (fun x=>(x.born:Int)==(e.born:Int))=none:=by rw[List.findIdx?_eq_none_iff];intro x hx;have:=hne x hx;simp;omega
  rw[h1,List.findIdx?_cons];simp
 have hl':(es.modify l1.length fun x=>{ x with val:=v }).toList=l1++{ e with val:=v }::l2:=by rw[Array.toList_modify,hl,Ce]
 refine⟨es.modify l1.length fun x=>{ x with val:=v },?_,?_⟩
 ·unfold Instr.entryStore;simp only[Sem.run_bind,hg,cY,goInt,asInt,asIntOf,Sem.run_pure,hfi,oN h.blk]
 ·refine⟨jR h.blk,by rw[hl'];simp,fun x hx=>?_,?_,fun x hx=>?_,?_⟩
  ·rw[hl'] at hx;rcases aE.1 hx with hx|hx
   ·exact h.key x (by rw[hl];simp[hx])
   ·rcases aN.1 hx with rfl|hx
    ·exact h.key e (by rw[hl];simp)
    ·exact h.key x (by rw[hl];simp[hx])
  ·have:=h.nod;rw[hm] at this;simpa using this
  ·rw[hl'] at hx;rcases aE.1 hx with hx|hx
   ·exact h.brn x (by rw[hl];simp[hx])
   ·rcases aN.1 hx with rfl|hx
    ·exact h.brn e (by rw[hl];simp)
    ·exact h.brn x (by rw[hl];simp[hx])
  ·rw[hl'];simpa using hbn
end
theorem Tryz.infoMsg:(Tryz.prog.info? 149).map (fun i=>(i.zero,i.size,i.bytes))=some (some (.agg #[.slice none 0 0,.int .i64 0,.int .i64 0,.slice none 0 0]),4,64):=by kernel_rfl
structure SnC where
 TB:Nat
 LB:Nat
 Bm:Nat
 Bl:Nat
 a:Int
 b:Int
 m0:Value
 m1:Value
 m2:Value
 m3:Value
 v:Value
 e:MapEntry
 n:Nat
 xs:List Value
 Rv:Nat->Prop
 w1:World
def SnC.news(c:SnC):List Value:=[c.m0,c.m1,c.m2,c.m3]
def Rsn(c:SnC)(j:Nat)(x:Value)(w:World):Prop:=
 match j with
 |0=>x=.pointer (some ⟨c.TB,0,none⟩)
 |1=>x=.pointer (some ⟨c.TB,0,none⟩)
 |2=>x=.pointer (some ⟨c.TB,2,none⟩)
 |3=>x=.map (some c.LB)
 |4=>x=.agg #[.int .i64 c.a,.int .i64 c.b]
 |5=>x=.agg #[c.m0,c.m1,c.m2,c.m3]
 |6=>∃g,x=.slice (some ⟨g,0,none⟩) 1 1/\c.w1.heap.size<=g/\w.heap[g]?=some (.cells #[c.m0,c.m1,c.m2,c.m3] 149 (0,0))
 |7=>x=.tuple #[c.v,goInt c.e.born]
 |8=>x=c.v/\Qr w 149 4 c.Rv c.v c.n c.xs
 |9=>(∃a m cap,x=.slice a m cap)/\Qr w 149 4 (fun k=>x.ownBlock=some k) x (c.n+1) (c.xs++c.news)/\(x.ownBlock=c.v.ownBlock\/∃k,c.w1.heap.size<=k/\x.ownBlock=some k)
 |10=>x=goInt c.e.born
 |_=>True
structure Gsn(c:SnC)(i:Nat)(wa wb:World):Prop where
 g:wa.grownBy wb c.v.ownBlock
 q:Qr wa 149 4 c.Rv c.v c.n c.xs->Qr wb 149 4 c.Rv c.v c.n c.xs
 r:i≠9->Gr wa wb
variable {c:SnC}
theorem Gsn.gr{i:Nat}{wa wb:World}(g:Gr wa wb):Gsn c i wa wb:=⟨⟨g.os,g.tape,g.output,g.size,fun k hk _=>g.block k hk⟩,fun h=>h.kept fun k hk hR=>⟨g.block k hk,hR⟩,fun _=>g⟩
def Wsn(c:SnC)(w:World):Prop:=c.w1.grownBy w c.v.ownBlock/\Qr w 149 4 c.Rv c.v c.n c.xs
theorem Rsn.keep(hv:∀k,c.v.ownBlock=some k->k<c.w1.heap.size)(i j:Nat)(x:Value)(wa wb:World)(hij:i≠j)(h:Rsn c j x wa)(g:Gsn c i wa wb):Rsn c j x wb:=by
 match j,h,hij with
 |0,h,_=>exact h
 |1,h,_=>exact h
 |2,h,_=>exact h
 |3,h,_=>exact h
 |4,h,_=>exact h
 |5,h,_=>exact h
 |6,h,_=>obtain⟨q,h1,h2,h3⟩:=h;exact⟨q,h1,h2,(g.g.block q (fZ h3) (fun e=>by have:=hv q e.symm;omega)).trans h3⟩
 |7,h,_=>exact h
 |8,h,_=>exact⟨h.1,g.q h.2⟩
 |9,h,hij=>exact⟨h.1,h.2.1.kept fun k hk hR=>⟨(g.r hij).block k hk,hR⟩,h.2.2⟩
 |10,h,_=>exact h
 |_+11,_,_=>trivial
def dsn(i:Nat):Nat:=[12,13,14,15,16,18,19,20,17,21,22].getD i 0
theorem Xr:∀i,i<11->∀j,j<11->dsn i=dsn j->i=j:=by decide
structure Esn(c:SnC)(a:Act):Prop where
 sz:23<=a.tmps.size
 df:a.defers=[]
 t0:a.eval (.tmp 0)=.pointer (some ⟨c.TB,0,none⟩)
 t7:a.eval (.tmp 7)=.pointer (some ⟨c.Bm,0,none⟩)
 t8:a.eval (.tmp 8)=.pointer (some ⟨c.Bl,0,none⟩)
theorem Ue:∀i,i<11->12<=dsn i/\dsn i<23:=by decide
theorem Esn.put(a:Act)(i:Nat)(x:Value)(hi:i<11)(h:Esn c a):Esn c (a.put (some (dsn i)) x):=by
 have hd:=Ue i hi;refine⟨by simpa[Act.put] using h.sz,h.df,?_,?_,?_⟩<;>rw[iX (by omega)]
 ·exact h.t0
 ·exact h.t7
 ·exact h.t8
theorem Rn(T:Tc)(r:Nat->Rl)(w:World)(Xs:Nat->List Hm)(qs:Nat->Nat->List Mm)(cls:List Cl)(a b:Nat)(x:Mm)(m0 m1 m2 m3:Value)(hx:iE x=[m0,m1,m2,m3])(h:Tm T r w Xs qs cls)(hab:T.adj a b=true)(hok:qY r w x)(hn:(qs a b).length<1099511627776):Calls prog 73 #[.pointer (some ⟨T.TB,0,none⟩),.int .i64 a,.int .i64 b,.agg #[m0,m1,m2,m3]] w fun e w'=>e=.returned (.tuple #[])/\∃r',Tm T r' w' Xs (uN qs a b [x]) cls/\Fr r r' w w':=by
 obtain⟨i0,hi,hz0,hz1,hz2⟩:=info_parts Tryz.infoMsg;have hone:∀u∈[m0,m1,m2,m3],u.oneCell'=true:=by rw[<-hx];intro u hu;unfold iE at hu;split at hu<;>simp at hu<;>rcases hu with rfl|rfl|rfl|rfl<;>rfl
 have o0:=hone m0 (by simp);have o1:=hone m1 (by simp);have o2:=hone m2 (by simp);have o3:=hone m3 (by simp);have hlt:=h.b.adj a b hab;have hnb:=h.b.nb8;have Hh:=hZ h;have HX:=hZ hx;have HO:=hZ hok;have HONE:=hZ hone;clear h hx hok hone;go_enter func73,ntmps73;go_wp2_with fail;have G1:Gr w ((w.alloc (.cells #[m0,m1,m2,m3] 149)).alloc (.cells #[.int .i64 a,.int .i64 b] 30)):=((Gr.refl w).alloc _).alloc _;have HA2:=gK (gZ.alloc (.cells #[.int .i64 a,.int .i64 b] 30)) (fY w (.cells #[m0,m1,m2,m3] 149));have HB2:=fY (w.alloc (.cells #[m0,m1,m2,m3] 149)) (.cells #[.int .i64 a,.int .i64 b] 30);have hsz:(w.alloc (.cells #[m0,m1,m2,m3] 149)).heap.size=w.heap.size+1:=by simp
 rw[hsz] at HB2;clear hsz;generalize((w.alloc (.cells #[m0,m1,m2,m3] 149)).alloc (.cells #[.int .i64 a,.int .i64 b] 30))=W1 at *;have hT:=Hh.gr G1;obtain⟨m,es,clock,hmp,_,hall,hev⟩:=hT.l.lk;obtain⟨v,hv⟩:=hev a b hab;have hQ:Qr W1 149 4 (fun k=>r k=.qu a b) v (qs a b).length ((qs a b).flatMap iE):=by obtain⟨a',b',e,_,hQ⟩:=hall _ v hv;have:=mT e;simp only[cP,dX] at this;rw[this.1,this.2];exact hQ
 obtain⟨l1,e,l2,hl,hek,hev'⟩:=hmp.spl hv;subst hev';obtain⟨lk,hlk⟩:=Bc ((a:Int),(b:Int)) ⟨by omega,by omega⟩ ⟨by omega,by omega⟩;have hlk':keyOf prog 30 e.key=some lk:=by rw[hek];exact hlk
 have hown:∀k,e.val.ownBlock=some k->r k=.qu a b/\k<W1.heap.size:=fun k hk=>hQ.own k hk;have hTB:T.TB<W1.heap.size:=hT.tlt;have nTB:some T.TB≠e.val.ownBlock:=fun ee=>by have:=(hown _ ee.symm).1;rw[hT.b.rT] at this;cases this
 have nLB:some T.LB≠e.val.ownBlock:=fun ee=>by have:=(hown _ ee.symm).1;rw[hT.l.lm] at this;cases this
 have nBm:some w.heap.size≠e.val.ownBlock:=fun ee=>by have:=(hown _ ee.symm).1;rw[Hh.b.top _ lZ] at this;cases this
 have nBl:some (w.heap.size+1)≠e.val.ownBlock:=fun ee=>by have:=(hown _ ee.symm).1;rw[Hh.b.top _ (cD _)] at this;cases this
 have hc2:=hT.b.c2;refine oP rfl 11 (by rfl) dsn Xr (Rsn ⟨T.TB,T.LB,w.heap.size,w.heap.size+1,a,b,m0,m1,m2,m3,e.val,e,(qs a b).length,(qs a b).flatMap iE,fun k=>r k=.qu a b,W1⟩) (Esn ⟨T.TB,T.LB,w.heap.size,w.heap.size+1,a,b,m0,m1,m2,m3,e.val,e,(qs a b).length,(qs a b).flatMap iE,fun k=>r k=.qu a b,W1⟩) (Wsn ⟨T.TB,T.LB,w.heap.size,w.heap.size+1,a,b,m0,m1,m2,m3,e.val,e,(qs a b).length,(qs a b).flatMap iE,fun k=>r k=.qu a b,W1⟩) (Gsn ⟨T.TB,T.LB,w.heap.size,w.heap.size+1,a,b,m0,m1,m2,m3,e.val,e,(qs a b).length,(qs a b).flatMap iE,fun k=>r k=.qu a b,W1⟩) (fun a i x hi h=>Esn.put a i x hi h) (fun a h i hi=>by have:=h.sz;have:=Ue i hi;omega) (fun i wa wb h g=>⟨h.1.trans g.g,g.q h.2⟩) (fun i j x wa wb hij h g=>Rsn.keep (fun k hk=>(hown k hk).2) i j x wa wb hij h g) ?front ?last ?e0 ⟨⟨rfl,rfl,rfl,lZ,fun _ _ _=>rfl⟩,hQ⟩;case e0=>exact⟨by simp,rfl,rfl,rfl,rfl⟩
 case front=>
  intro i o a' wr ho hi' hE hW hd K hK;have gW:=hW.1;have c2:wr.cell? ⟨T.TB,2,none⟩=some (.map (some T.LB)):=(gW.cell_far ⟨T.TB,2,none⟩ hTB nTB).trans hc2;have hA:wr.heap[w.heap.size]?=some (.cells #[m0,m1,m2,m3] 149 (0,0)):=(gW.block _ (fZ HA2) nBm).trans HA2;have hB:wr.heap[w.heap.size+1]?=some (.cells #[.int .i64 a,.int .i64 b] 30 (0,0)):=(gW.block _ (fZ HB2) nBl).trans HB2;have hM:Mp prog 30 wr T.LB m es clock:=hmp.kept (gW.block _ hmp.lt nLB)
  match i,ho,hi',hd,hK with
  |0,ho,_,hd,hK=>obtain rfl:=oZ ho;have e0:=(evn a' 0).symm.trans hE.t0;unfold Oper.wp;go_simp;exact hK _ _ (Gsn.gr gZ) rfl
  |1,ho,_,hd,hK=>obtain rfl:=oZ ho;have e0:a'.eval (.tmp 12)=.pointer (some ⟨T.TB,0,none⟩):=hd ⟨0,.data⟩ (by simp) rfl;rw[evn] at e0;unfold Oper.wp;go_simp;exact hK _ _ (Gsn.gr gZ) rfl
  |2,ho,_,hd,hK=>obtain rfl:=oZ ho;have e0:a'.eval (.tmp 13)=.pointer (some ⟨T.TB,0,none⟩):=hd ⟨1,.data⟩ (by simp) rfl;rw[evn] at e0;unfold Oper.wp;go_simp;exact hK _ _ (Gsn.gr gZ) rfl
  |3,ho,_,hd,hK=>obtain rfl:=oZ ho;have e0:a'.eval (.tmp 14)=.pointer (some ⟨T.TB,2,none⟩):=hd ⟨2,.data⟩ (by simp) rfl;rw[evn] at e0;unfold Oper.wp;go_simp;exact hK _ _ (Gsn.gr gZ) rfl
  |4,ho,_,hd,hK=>obtain rfl:=oZ ho;have e0:=(evn a' 8).symm.trans hE.t8;(have d0:wr.cell? ⟨w.heap.size+1,0,none⟩=some (.int .i64 a):=by rw[cZ hB];rfl);(have d1:wr.cell? ⟨w.heap.size+1,1,none⟩=some (.int .i64 b):=by rw[cZ hB];rfl);unfold Oper.wp;go_simp;exact hK _ _ (Gsn.gr gZ) rfl
  |5,ho,_,hd,hK=>obtain rfl:=oZ ho;have e0:=(evn a' 7).symm.trans hE.t7;(have d0:wr.cell? ⟨w.heap.size,0,none⟩=some m0:=by rw[cZ hA];rfl);(have d1:wr.cell? ⟨w.heap.size,1,none⟩=some m1:=by rw[cZ hA];rfl);(have d2:wr.cell? ⟨w.heap.size,2,none⟩=some m2:=by rw[cZ hA];rfl);(have d3:wr.cell? ⟨w.heap.size,3,none⟩=some m3:=by rw[cZ hA];rfl);unfold Oper.wp;go_simp;exact hK _ _ (Gsn.gr gZ) rfl
  |6,ho,_,hd,hK=>obtain rfl:=oZ ho;have e0:a'.eval (.tmp 18)=.agg #[m0,m1,m2,m3]:=hd ⟨5,.data⟩ (by simp) rfl;rw[evn] at e0;unfold Oper.wp;go_simp;exact hK _ _ (Gsn.gr (gZ.alloc _)) ⟨_,rfl,gW.size,fY _ _⟩
  |7,ho,_,hd,hK=>obtain rfl:=oZ ho;have e0:a'.eval (.tmp 15)=.map (some T.LB):=hd ⟨3,.data⟩ (by simp) rfl;have e1:a'.eval (.tmp 16)=.agg #[.int .i64 a,.int .i64 b]:=hd ⟨4,.data⟩ (by simp) rfl;rw[evn] at e0 e1;have hme:=Mp.entry Tryz.keyedE underlying107 hM hl hlk';rw[hek] at hme;unfold pk at hme;unfold Oper.wp;go_simp;exact hK _ _ (Gsn.gr gZ) rfl
  |8,ho,_,hd,hK=>obtain rfl:=oZ ho;have e0:a'.eval (.tmp 20)=.tuple #[e.val,goInt e.born]:=hd ⟨7,.data⟩ (by simp) rfl;rw[evn] at e0;unfold Oper.wp;go_simp;exact hK _ _ (Gsn.gr gZ) ⟨rfl,hW.2⟩
  |9,ho,_,hd,hK=>
   obtain rfl:=oZ ho;obtain⟨e0,hq0⟩:Rsn _ 8 (a'.eval (.tmp 17)) wr:=hd ⟨8,.data⟩ (by simp) rfl;obtain⟨g,e1,hg1,hg2⟩:Rsn _ 6 (a'.eval (.tmp 19)) wr:=hd ⟨6,.data⟩ (by simp) rfl;refine mA wr (.tmp 17) (.tmp 19) 112 rfl 149 i0 _ 4 64 underlying112 hi hz0 hz1 hz2 rfl (fun k=>r k=.qu a b) e.val (qs a b).length ((qs a b).flatMap iE) e0 hW.2 ⟨g,0,none⟩ 1 1 [m0,m1,m2,m3] e1 (by omega) rfl (World.news_of_block hg2) HONE (by unfold maxLen;omega) (by omega) ?_;intro v' w' k1 k2 k3 k4;obtain⟨sa,sc,hsv⟩:=k1.shape;refine hK _ _ ⟨k2,fun _=>k4,fun h=>absurd rfl h⟩ ⟨⟨sa,_,sc,hsv⟩,k1,?_⟩;rcases k3 with k3|k3
   ·exact Or.inl k3
   ·exact Or.inr ⟨_,gW.size,k3⟩
  |10,ho,_,hd,hK=>obtain rfl:=oZ ho;have e0:a'.eval (.tmp 20)=.tuple #[e.val,goInt e.born]:=hd ⟨7,.data⟩ (by simp) rfl;rw[evn] at e0;unfold Oper.wp;go_simp;exact hK _ _ (Gsn.gr gZ) rfl
  |k+11,_,hi',_,_=>exact absurd hi' (by omega)
 case last=>
  intro o a' wr ho hE hW hd K hK;obtain rfl:=oZ ho;have gW:=hW.1;have e0:a'.eval (.tmp 15)=.map (some T.LB):=hd 3 (by omega);have e1:a'.eval (.tmp 22)=goInt e.born:=hd 10 (by omega);obtain⟨⟨sa,sn,sc,hsv⟩,k1,k3⟩:Rsn _ 9 (a'.eval (.tmp 21)) wr:=hd 9 (by omega);have hM:Mp prog 30 wr T.LB m es clock:=hmp.kept (gW.block _ hmp.lt nLB);obtain⟨es',hes,hM'⟩:=Mp.entry_put (mt:=107) hM hl (a'.eval (.tmp 21));rw[hek] at hM';have hmm:=hmp.ent_of hl;rw[hek] at hmm;have hxx:[m0,m1,m2,m3]=iE x:=HX.symm;have k1':Qr wr 149 4 (fun k=>(a'.eval (.tmp 21)).ownBlock=some k) (a'.eval (.tmp 21)) ((qs a b).length+1) ((qs a b).flatMap iE++iE x):=by rw[<-hxx];exact k1
  have FIN:=Tm.send hT x (HO.keep G1.size (fun k hk _=>G1.block k hk) (fun _ _=>rfl)) (by rw[<-hmm];exact hmp) (by rw[<-hmm];exact hall) (by rw[<-hmm];exact hev) hQ hab gW k1' k3 hM';rw[evn] at e0 e1;rw[hsv] at hes;unfold goInt at hes;rw[evn] at hsv;have hdf:=hE.df;clear hd k1 k3 k1' hM';unfold Oper.wp;go_simp;refine hK _ _ ?_;go_wp2_with fail;obtain⟨r',h1,h2⟩:=FIN;exact bodyPost_end (v:=.tuple #[]) (by simp[results,results73,go_sem]) hdf ⟨rfl,r',h1,(Fr.gr G1).trans h2⟩
end Go.Proofs.YtecnfgikbmcgoabGreat
