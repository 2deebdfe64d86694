import Derived.Test.YtecnfgikbmcgoabGreatG8
set_option maxHeartbeats 8000000
set_option maxRecDepth 100000
namespace Go.Proofs.YtecnfgikbmcgoabGreat
open Go.Proofs.Tryz
open Go.RowKit
open Go.Maps (Keyed)
open Go.ChangeMaps (setBlock)
variable {X:List Hm}{Xs:Nat->List Hm}{clock:Nat}{es:Array MapEntry}{seen:Array Nat}{w w':World}{x:Hm}
inductive Rl where
 |no
 |fx
 |hm (b:Nat)
 |cm
 |lm
 |qu (a b:Nat)
 |cl (c:Int)
 |ch (c:Int)
 |ix (c:Int) (k:Nat)
structure Tc where
 nb:Nat
 adj:Nat->Nat->Bool
 TB:Nat
 HB:Nat
 hcap:Nat
 MB:Nat->Nat
 CB:Nat
 LB:Nat
 ml:Int
structure Fr(role role':Nat->Rl)(w w':World):Prop where
 os:w'.os=w.os
 tape:w'.tape=w.tape
 output:w'.output=w.output
 size:w.heap.size<=w'.heap.size
 keep:∀k,k<w.heap.size->(role k=.no\/role k=.fx)->w'.heap[k]?=w.heap[k]?
 same:∀k,k<w.heap.size->role' k=role k
theorem Fr.refl(role:Nat->Rl)(w:World):Fr role role w w:=⟨rfl,rfl,rfl,lZ,fun _ _ _=>rfl,fun _ _=>rfl⟩
variable {r1:Nat->Rl}
theorem Fr.trans{r r2:Nat->Rl}{w1 w2:World}(h:Fr r r1 w w1)(k:Fr r1 r2 w1 w2):Fr r r2 w w2:=⟨k.os.trans h.os,k.tape.trans h.tape,k.output.trans h.output,aA h.size k.size,fun i hi hr=>(k.keep i (aF hi h.size) (by rw[h.same i hi];exact hr)).trans (h.keep i hi hr),fun i hi=>(k.same i (aF hi h.size)).trans (h.same i hi)⟩
theorem Fr.gr{r:Nat->Rl}(g:Gr w w'):Fr r r w w':=⟨g.os,g.tape,g.output,g.size,fun k hk _=>g.block k hk,fun _ _=>rfl⟩
theorem hN{b:Nat}(h:w'.heap[b]?=w.heap[b]?)(o:Nat):w'.cell? ⟨b,o,none⟩=w.cell? ⟨b,o,none⟩:=World.cell?_of_block (a:=⟨b,o,none⟩) h
theorem iD.blk{b off:Nat}{l:List Wnt}(h:iD w b off l)(hb:w'.heap[b]?=w.heap[b]?):iD w' b off l:=fun i hi=>by obtain⟨h1,h2,h3,h4,h5⟩:=h i hi;simp only[hN hb];exact⟨h1,h2,h3,h4,h5⟩
theorem iP.blk{b off:Nat}{l:List Atr}(h:iP w b off l)(hb:w'.heap[b]?=w.heap[b]?):iP w' b off l:=fun i hi=>by obtain⟨h1,h2,h3,h4⟩:=h i hi;simp only[hN hb];exact⟨h1,h2,h3,h4⟩
structure FiR(role:Nat->Rl)(w:World)(ad:Option Addr)(l:List Wnt):Prop where
 m:FiM w ad l
 r:∃b off,ad=some ⟨b,off,none⟩/\role b=.fx
variable {r':Nat->Rl}
theorem FiR.keep{r:Nat->Rl}{ad:Option Addr}{l:List Wnt}(h:FiR r w ad l)(hs:w.heap.size<=w'.heap.size)(hk:∀k,k<w.heap.size->r k=.fx->w'.heap[k]?=w.heap[k]?)(hr:∀k,k<w.heap.size->r' k=r k):FiR r' w' ad l:=by obtain⟨⟨⟨b,off,h1,h2,h3⟩,hwf,hok⟩,b',off',h4,h5⟩:=h;have e:=h1.symm.trans h4;injection e with e;injection e with e1 e2;subst e1;refine⟨⟨⟨b,off,h1,aF h2 hs,h3.blk (hk b h2 h5)⟩,hwf,hok⟩,b,off,h1,(hr b h2).trans h5⟩
structure EvM(w:World)(ad:Option Addr)(l:List Atr):Prop where
 at':∃b off,ad=some ⟨b,off,none⟩/\b<w.heap.size/\iP w b off l
 wf:∀x∈l,Atr.Wf x
 ok:kZ l=true
theorem EvM.gr{ad:Option Addr}{l:List Atr}(h:EvM w ad l)(g:Gr w w'):EvM w' ad l:=by obtain⟨b,off,h1,h2,h3⟩:=h.at';exact⟨⟨b,off,h1,g.lt h2,h3.gr g h2⟩,h.wf,h.ok⟩
structure EvR(role:Nat->Rl)(w:World)(ad:Option Addr)(l:List Atr):Prop where
 m:EvM w ad l
 r:∃b off,ad=some ⟨b,off,none⟩/\role b=.fx
theorem EvR.keep{r:Nat->Rl}{ad:Option Addr}{l:List Atr}(h:EvR r w ad l)(hs:w.heap.size<=w'.heap.size)(hk:∀k,k<w.heap.size->r k=.fx->w'.heap[k]?=w.heap[k]?)(hr:∀k,k<w.heap.size->r' k=r k):EvR r' w' ad l:=by obtain⟨⟨⟨b,off,h1,h2,h3⟩,hwf,hok⟩,b',off',h4,h5⟩:=h;have e:=h1.symm.trans h4;injection e with e;injection e with e1 e2;subst e1;refine⟨⟨⟨b,off,h1,aF h2 hs,h3.blk (hk b h2 h5)⟩,hwf,hok⟩,b,off,h1,(hr b h2).trans h5⟩
theorem mJ{base:Nat}{e:TypeId}{size n:Nat}{v:Value}{xs:List Value}(h:w.ownsRow base e size v n xs)(hk:∀q,q<w.heap.size->v.ownBlock=some q->w'.heap[q]?=w.heap[q]?):w'.ownsRow base e size v n xs:=by
 refine⟨h.1,?_⟩;rcases h.2 with h2|⟨b,cap,cur,hv,hb,hh,r⟩
 ·exact Or.inl h2
 ·exact Or.inr ⟨b,cap,cur,hv,hb,(hk b (fZ hh) (by rw[hv];rfl)).trans hh,r⟩
theorem qC{e:TypeId}{lo lo' s n:Nat}{v:Value}{cs:List Value}(h:w.ownsRow lo e s v n cs)(hl:lo'<=lo):w.ownsRow lo' e s v n cs:=⟨h.1,by
  rcases h.2 with h1|⟨b1,c1,u1,q1,q2,q3⟩
  ·exact Or.inl h1
  ·exact Or.inr ⟨b1,c1,u1,q1,by omega,q3⟩⟩
def bv(x:List Atr×Option Addr×Nat):Value:=.slice x.2.1 x.1.length x.2.2
structure EvI(ρ:Rl)(role:Nat->Rl)(w:World)(x:List Atr×Option Addr×Nat):Prop where
 m:EvM w x.2.1 x.1
 o:w.ownsRow 0 86 4 (bv x) x.1.length (iK x.1)
 r:∃b,x.2.1=some ⟨b,0,none⟩/\role b=ρ
theorem EvI.keep{ρ:Rl}{r:Nat->Rl}{x:List Atr×Option Addr×Nat}(h:EvI ρ r w x)(hs:w.heap.size<=w'.heap.size)(hk:∀k,k<w.heap.size->r k=ρ->w'.heap[k]?=w.heap[k]?)(hr:∀k,k<w.heap.size->r' k=r k):EvI ρ r' w' x:=by obtain⟨⟨⟨b,off,h1,h2,h3⟩,hwf,hok⟩,ho,b',h4,h5⟩:=h;have e:=h1.symm.trans h4;injection e with e;injection e with e1 e2;subst e1;refine⟨⟨⟨b,off,h1,aF h2 hs,h3.blk (hk b h2 h5)⟩,hwf,hok⟩,mJ ho (fun q hq e=>hk q hq ?_),b,h4,(hr b h2).trans h5⟩;simp only[bv,h1,Value.ownBlock,dN] at e;rw[<-e];exact h5
structure Mm where
 ms:Ms (List Wnt) (List Atr)
 ad:Option Addr
 cap:Nat
def iE(x:Mm):List Value:=
 match x.ms with
 |.sub k f=>[.slice none 0 0,.int .i64 k.1,.int .i64 k.2,.slice x.ad f.length x.cap]
 |.uns k=>[.slice none 0 0,.int .i64 k.1,.int .i64 k.2,.slice none 0 0]
 |.ev e=>[.slice x.ad e.length x.cap,.int .i64 0,.int .i64 0,.slice none 0 0]
theorem Jk(x:Mm):(iE x).length=4:=by unfold iE;split<;>rfl
theorem Mq:∀l:List Mm,(l.flatMap iE).length=l.length*4
 |[]=>rfl
 |x::l=>by rw[cQ,aG,Mq l,Jk,bA];omega
def qY(role:Nat->Rl)(w:World)(x:Mm):Prop:=
 match x.ms with
 |.sub k f=>(I64 k.1/\I64 k.2)/\FiR role w x.ad f
 |.uns k=>I64 k.1/\I64 k.2
 |.ev e=>EvR role w x.ad e
theorem qY.keep{r:Nat->Rl}{x:Mm}(h:qY r w x)(hs:w.heap.size<=w'.heap.size)(hk:∀k,k<w.heap.size->r k=.fx->w'.heap[k]?=w.heap[k]?)(hr:∀k,k<w.heap.size->r' k=r k):qY r' w' x:=by
 unfold qY at h ⊢;split
 ·rename_i k f e;rw[e] at h;exact⟨h.1,h.2.keep hs hk hr⟩
 ·rename_i k e;rw[e] at h;exact h
 ·rename_i v e;rw[e] at h;exact EvR.keep h hs hk hr
structure Tb(T:Tc)(role:Nat->Rl)(w:World):Prop where
 nb8:T.nb<=8
 pos:0<T.nb
 adj:∀a b,T.adj a b=true->a<T.nb/\b<T.nb
 c0:w.cell? ⟨T.TB,0,none⟩=some (.slice (some ⟨T.HB,0,none⟩) T.nb T.hcap)
 c1:w.cell? ⟨T.TB,1,none⟩=some (.map (some T.CB))
 c2:w.cell? ⟨T.TB,2,none⟩=some (.map (some T.LB))
 rT:role T.TB=.fx
 rH:role T.HB=.fx
 hb:∀b,b<T.nb->w.cell? ⟨T.HB,b,none⟩=some (.map (some (T.MB b)))
 top:∀k,w.heap.size<=k->role k=.no
 r0:role 0=.no
 ml:Ml T.ml w
structure Th(T:Tc)(role:Nat->Rl)(w:World)(Xs:Nat->List Hm):Prop where
 at':∀b,b<T.nb->role (T.MB b)=.hm b/\∃es clock,Mp prog 97 w (T.MB b) ((Xs b).map mv) es clock
 fi:∀b,b<T.nb->∀x∈Xs b,FiR role w x.2.1 x.1.f/\I64 x.1.key.1/\I64 x.1.key.2
structure Tl(T:Tc)(role:Nat->Rl)(w:World)(qs:Nat->Nat->List Mm):Prop where
 lm:role T.LB=.lm
 mp:∃m es clock,Mp prog 30 w T.LB m es clock/\(∀k v,(k,v)∈m->∃a b:Nat,k=pk ((a:Int),(b:Int))/\T.adj a b=true/\Qr w 149 4 (fun k=>role k=.qu a b) v (qs a b).length ((qs a b).flatMap iE))/\(∀a b:Nat,T.adj a b=true->∃v,(pk ((a:Int),(b:Int)),v)∈m)
 ms:∀a b,∀x∈qs a b,qY role w x
 nq:∀a b,T.adj a b=false->qs a b=[]
structure Cl where
 num:Int
 at':Nat
 blk:Nat
 chn:Nat
 lost:Int
 box:List (List Atr×Option Addr×Nat)
def cv(c:Cl):Value×Value:=(.int .i64 c.num,.pointer (some ⟨c.blk,0,none⟩))
structure Tk(T:Tc)(role:Nat->Rl)(w:World)(cls:List Cl):Prop where
 cm:role T.CB=.cm
 mp:∃es clock,Mp prog 3 w T.CB (cls.map cv) es clock
 num:∀c∈cls,I64 c.num/\c.at'<T.nb
 blk:∀c∈cls,role c.blk=.cl c.num/\w.heap[c.blk]?=some (.cells #[.int .i64 c.at',.chan (some c.chn),.int .i64 c.lost] 128 (0,0))
 chn:∀c∈cls,role c.chn=.ch c.num/\∃s r tm,w.heap[c.chn]?=some (.chan 16 (c.box.map bv).toArray false s r tm)
 box:∀c∈cls,∀i x,c.box[i]?=some x->EvI (.ix c.num i) role w x
structure Tm(T:Tc)(role:Nat->Rl)(w:World)(Xs:Nat->List Hm)(qs:Nat->Nat->List Mm)(cls:List Cl):Prop where
 b:Tb T role w
 h:Th T role w Xs
 l:Tl T role w qs
 k:Tk T role w cls
variable {T:Tc}
theorem Tb.lt{role:Nat->Rl}(h:Tb T role w){k:Nat}(hk:role k≠.no):k<w.heap.size:=by
 rcases cG k w.heap.size with h1|h1
 ·exact h1
 ·exact absurd (h.top k h1) hk
theorem Tb.keep{r:Nat->Rl}(h:Tb T r w)(hs:w.heap.size<=w'.heap.size)(hk:∀k,k<w.heap.size->(r k=.no\/r k=.fx)->w'.heap[k]?=w.heap[k]?)(hr:∀k,k<w.heap.size->r' k=r k)(ht:∀k,w'.heap.size<=k->r' k=.no):Tb T r' w':=by have lT:=h.lt (k:=T.TB) (by rw[h.rT];exact fun e=>by cases e);have lH:=h.lt (k:=T.HB) (by rw[h.rH];exact fun e=>by cases e);have eT:=hk _ lT (Or.inr h.rT);have eH:=hk _ lH (Or.inr h.rH);refine⟨h.nb8,h.pos,h.adj,by rw[hN eT];exact h.c0,by rw[hN eT];exact h.c1,by rw[hN eT];exact h.c2,(hr _ lT).trans h.rT,(hr _ lH).trans h.rH,fun b hb=>by rw[hN eH];exact h.hb b hb,ht,(hr 0 h.ml.pos).trans h.r0,?_⟩;exact⟨by rw[hN (hk 0 h.ml.pos (Or.inl h.r0))];exact h.ml.cell,aF h.ml.pos hs⟩
theorem Th.keep{r:Nat->Rl}(h:Th T r w Xs)(hs:w.heap.size<=w'.heap.size)(hk:∀k,k<w.heap.size->(r k=.fx\/∃b,r k=.hm b)->w'.heap[k]?=w.heap[k]?)(hr:∀k,k<w.heap.size->r' k=r k):Th T r' w' Xs:=by
 refine⟨fun b hbn=>?_,fun b hbn x hx=>?_⟩
 ·obtain⟨h1,es,clock,h2⟩:=h.at' b hbn;exact⟨(hr _ h2.lt).trans h1,es,clock,h2.kept (hk _ h2.lt (Or.inr ⟨b,h1⟩))⟩
 ·obtain⟨h1,h2⟩:=h.fi b hbn x hx;exact⟨h1.keep hs (fun k hk' hf=>hk k hk' (Or.inl hf)) hr,h2⟩
theorem Tl.keep{r:Nat->Rl}{qs:Nat->Nat->List Mm}(h:Tl T r w qs)(hs:w.heap.size<=w'.heap.size)(hk:∀k,k<w.heap.size->(r k=.fx\/r k=.lm\/∃a b,r k=.qu a b)->w'.heap[k]?=w.heap[k]?)(hr:∀k,k<w.heap.size->r' k=r k):Tl T r' w' qs:=by obtain⟨m,es,clock,h1,h2,h3⟩:=h.mp;refine⟨(hr _ h1.lt).trans h.lm,⟨m,es,clock,h1.kept (hk _ h1.lt (Or.inr (Or.inl h.lm))),fun k v hv=>?_,h3⟩,fun a b x hx=>(h.ms a b x hx).keep hs (fun k hk' hf=>hk k hk' (Or.inl hf)) hr,h.nq⟩;obtain⟨a,b,e,ha,hq⟩:=h2 k v hv;exact⟨a,b,e,ha,hq.kept fun g hg hR=>⟨hk g hg (Or.inr (Or.inr ⟨a,b,hR⟩)),(hr g hg).trans hR⟩⟩
variable {cls:List Cl}
theorem Tk.keep{r:Nat->Rl}(h:Tk T r w cls)(hs:w.heap.size<=w'.heap.size)(hk:∀k,k<w.heap.size->((∃c i,r k=.ix c i)\/r k=.cm\/(∃c,r k=.cl c)\/∃c,r k=.ch c)->w'.heap[k]?=w.heap[k]?)(hr:∀k,k<w.heap.size->r' k=r k):Tk T r' w' cls:=by
 obtain⟨es,clock,h1⟩:=h.mp;refine⟨(hr _ h1.lt).trans h.cm,⟨es,clock,h1.kept (hk _ h1.lt (Or.inr (Or.inl h.cm)))⟩,h.num,fun c hc=>?_,fun c hc=>?_,fun c hc i x hx=>(h.box c hc i x hx).keep hs (fun k hk' hf=>hk k hk' (Or.inl ⟨_,_,hf⟩)) hr⟩
 ·obtain⟨h2,h3⟩:=h.blk c hc;have hl:=fZ h3;exact⟨(hr _ hl).trans h2,(hk _ hl (Or.inr (Or.inr (Or.inl ⟨_,h2⟩)))).trans h3⟩
 ·obtain⟨h2,s,r1,tm,h3⟩:=h.chn c hc;have hl:=fZ h3;exact⟨(hr _ hl).trans h2,s,r1,tm,(hk _ hl (Or.inr (Or.inr (Or.inr ⟨_,h2⟩)))).trans h3⟩
theorem Tm.gr{r:Nat->Rl}{qs:Nat->Nat->List Mm}(h:Tm T r w Xs qs cls)(g:Gr w w'):Tm T r w' Xs qs cls:=⟨h.b.keep g.size (fun k hk _=>g.block k hk) (fun _ _=>rfl) (fun k hk=>h.b.top k (aA g.size hk)),h.h.keep g.size (fun k hk _=>g.block k hk) (fun _ _=>rfl),h.l.keep g.size (fun k hk _=>g.block k hk) (fun _ _=>rfl),h.k.keep g.size (fun k hk _=>g.block k hk) (fun _ _=>rfl)⟩
theorem Tm.apart{r r1':Nat->Rl}{qs:Nat->Nat->List Mm}(h:Tm T r w Xs qs cls)(g:Fr r1 r1' w w')(ha:∀k,r k=.no\/r1 k=.no)(h0:r1 0=.no):Tm T r w' Xs qs cls:=by
 have e:∀k,k<w.heap.size->r k≠.no->w'.heap[k]?=w.heap[k]?:=fun k hk hr=>g.keep k hk (Or.inl ((ha k).resolve_left hr));have nofx:∀{k:Nat},r k=.fx->r k≠.no:=fun h e=>by rw[h] at e;cases e
 refine⟨?_,h.h.keep g.size (fun k hk hr=>e k hk ?_) (fun _ _=>rfl),h.l.keep g.size (fun k hk hr=>e k hk ?_) (fun _ _=>rfl),h.k.keep g.size (fun k hk hr=>e k hk ?_) (fun _ _=>rfl)⟩
 ·have hb:=h.b;have lT:=hb.lt (k:=T.TB) (by rw[hb.rT];exact fun e=>by cases e);have lH:=hb.lt (k:=T.HB) (by rw[hb.rH];exact fun e=>by cases e);have eT:=e _ lT (nofx hb.rT);have eH:=e _ lH (nofx hb.rH);refine⟨hb.nb8,hb.pos,hb.adj,by rw[hN eT];exact hb.c0,by rw[hN eT];exact hb.c1,by rw[hN eT];exact hb.c2,hb.rT,hb.rH,fun b hbn=>by rw[hN eH];exact hb.hb b hbn,fun k hk=>hb.top k (aA g.size hk),hb.r0,?_⟩;exact⟨by rw[hN (g.keep 0 hb.ml.pos (Or.inl h0))];exact hb.ml.cell,aF hb.ml.pos g.size⟩
 ·rcases hr with hr|⟨b,hr⟩<;>rw[hr]<;>exact fun e=>by cases e
 ·rcases hr with hr|hr|⟨a,b,hr⟩<;>rw[hr]<;>exact fun e=>by cases e
 ·rcases hr with⟨c,i,hr⟩|hr|⟨c,hr⟩|⟨c,hr⟩<;>rw[hr]<;>exact fun e=>by cases e
theorem Tm.rerole{r:Nat->Rl}{qs:Nat->Nat->List Mm}(h:Tm T r w Xs qs cls)(r':Nat->Rl)(hr:∀k,r k≠.no->r' k=r k\/∃c i,r k=.ix c i/\∀d∈cls,d.num=c->d.box=[])(h0:r' 0=.no)(ht:∀k,w.heap.size<=k->r' k=.no):Tm T r' w Xs qs cls:=by
 have ne:∀{k:Nat}{x:Rl},r k=x->(x≠.no/\∀c i,x≠.ix c i)->r' k=x:=fun e hx=>by
  rcases hr _ (by rw[e];exact hx.1) with e1|⟨c,i,e1,_⟩
  ·exact e1.trans e
  ·exact absurd (e.symm.trans e1) (hx.2 c i)
 have nn:∀{x:Rl},(x=.fx\/x=.cm\/x=.lm\/(∃b,x=.hm b)\/(∃a b,x=.qu a b)\/(∃c,x=.cl c)\/∃c,x=.ch c)->x≠.no/\∀c i,x≠.ix c i:=fun e=>by rcases e with rfl|rfl|rfl|⟨_,rfl⟩|⟨_,_,rfl⟩|⟨_,rfl⟩|⟨_,rfl⟩<;>exact⟨fun e=>(by cases e),fun c i e=>(by cases e)⟩
 have fiR:∀{ad:Option Addr}{l:List Wnt},FiR r w ad l->FiR r' w ad l:=fun⟨a,b,off,c,d⟩=>⟨a,b,off,c,ne d (nn (by simp))⟩;have evR:∀{ad:Option Addr}{l:List Atr},EvR r w ad l->EvR r' w ad l:=fun⟨a,b,off,c,d⟩=>⟨a,b,off,c,ne d (nn (by simp))⟩;refine⟨⟨h.b.nb8,h.b.pos,h.b.adj,h.b.c0,h.b.c1,h.b.c2,ne h.b.rT (nn (by simp)),ne h.b.rH (nn (by simp)),h.b.hb,ht,h0,h.b.ml⟩,⟨fun b hb=>⟨ne (h.h.at' b hb).1 (nn (by simp)),(h.h.at' b hb).2⟩,fun b hb x hx=>⟨fiR (h.h.fi b hb x hx).1,(h.h.fi b hb x hx).2⟩⟩,?_,?_⟩
 ·obtain⟨m,es,clock,h1,h2,h3⟩:=h.l.mp;refine⟨ne h.l.lm (nn (by simp)),⟨m,es,clock,h1,fun k v hv=>?_,h3⟩,fun a b x hx=>?_,h.l.nq⟩
  ·obtain⟨a,b,e,ha,hq⟩:=h2 k v hv;exact⟨a,b,e,ha,hq.kept fun g hg hR=>⟨rfl,ne hR (nn (by simp))⟩⟩
  ·have hm:=h.l.ms a b x hx;unfold qY at hm ⊢;split
   ·rename_i k f e;rw[e] at hm;exact⟨hm.1,fiR hm.2⟩
   ·rename_i k e;rw[e] at hm;exact hm
   ·rename_i v e;rw[e] at hm;exact evR hm
 ·refine⟨ne h.k.cm (nn (by simp)),h.k.mp,h.k.num,fun c hc=>⟨ne (h.k.blk c hc).1 (nn (by simp)),(h.k.blk c hc).2⟩,fun c hc=>⟨ne (h.k.chn c hc).1 (nn (by simp)),(h.k.chn c hc).2⟩,fun c hc i x hx=>?_⟩;obtain⟨b,e1,e2⟩:=(h.k.box c hc i x hx).r;refine⟨(h.k.box c hc i x hx).m,(h.k.box c hc i x hx).o,b,e1,?_⟩;rcases hr b (by rw[e2];exact fun e=>by cases e) with e3|⟨c',i',e3,e4⟩
  ·exact e3.trans e2
  ·have e5:=e2.symm.trans e3;injection e5 with e5 _;rw[e4 c hc e5] at hx;cases hx
theorem Tm.own{r:Nat->Rl}{qs:Nat->Nat->List Mm}(h:Tm T r w Xs qs cls)(r':Nat->Rl)(hr:∀k,r k≠.no->r' k=r k)(h0:r' 0=.no)(ht:∀k,w.heap.size<=k->r' k=.no):Tm T r' w Xs qs cls:=h.rerole r' (fun k hk=>Or.inl (hr k hk)) h0 ht
theorem Tm.hp{r:Nat->Rl}{qs:Nat->Nat->List Mm}(h:Tm T r w Xs qs cls){b:Nat}(hb:b<T.nb):∃es clock,Hp w (T.MB b) (Xs b) es clock:=by obtain⟨_,es,clock,h2⟩:=h.h.at' b hb;exact⟨es,clock,h2,fun x hx=>(h.h.fi b hb x hx).1.m⟩
theorem Tm.tlt{r:Nat->Rl}{qs:Nat->Nat->List Mm}(h:Tm T r w Xs qs cls):T.TB<w.heap.size:=h.b.lt (by rw[h.b.rT];exact fun e=>by cases e)
theorem Tm.hlt{r:Nat->Rl}{qs:Nat->Nat->List Mm}(h:Tm T r w Xs qs cls):T.HB<w.heap.size:=h.b.lt (by rw[h.b.rH];exact fun e=>by cases e)
theorem Tm.hs{r:Nat->Rl}{qs:Nat->Nat->List Mm}(h:Tm T r w Xs qs cls):Hs w T.TB T.HB 0 T.nb T.hcap Xs:=⟨h.b.c0,h.tlt,h.hlt,fun b hb=>by obtain⟨es,clock,h1⟩:=h.hp hb;exact⟨T.MB b,es,clock,by rw[cE];exact h.b.hb b hb,h1⟩⟩
theorem Tl.lk{r:Nat->Rl}{qs:Nat->Nat->List Mm}(h:Tl T r w qs):∃m es clock,Mp prog 30 w T.LB m es clock/\Lk T.adj T.nb m/\(∀k v,(k,v)∈m->∃a b:Nat,k=pk ((a:Int),(b:Int))/\T.adj a b=true/\Qr w 149 4 (fun k=>r k=.qu a b) v (qs a b).length ((qs a b).flatMap iE))/\(∀a b:Nat,T.adj a b=true->∃v,(pk ((a:Int),(b:Int)),v)∈m):=by obtain⟨m,es,clock,h1,h2,h3⟩:=h.mp;refine⟨m,es,clock,h1,⟨fun a b _ _=>⟨h3 a b,fun⟨v,hv⟩=>?_⟩⟩,h2,h3⟩;obtain⟨a',b',e,ha,_⟩:=h2 _ v hv;have:=mT e;simp only[cP,dX] at this;rw[this.1,this.2];exact ha
open Go.RowKit Go.Sort Go.Shelf Go.Lib
instance:Inhabited Hw:=⟨⟨(0,0),[],0⟩⟩
def lA(x:Hm):List Value:=[.int .i64 x.1.key.1,.int .i64 x.1.key.2,.slice x.2.1 x.1.f.length x.2.2,.int .i64 x.1.fr]
def hH(l:List Hm):List Value:=l.flatMap lA
theorem kU(l:List Hm)(x:Hm):hH (l++[x])=hH l++[.int .i64 x.1.key.1,.int .i64 x.1.key.2,.slice x.2.1 x.1.f.length x.2.2,.int .i64 x.1.fr]:=by simp[hH,lA]
theorem Tryz.infoHold:(Tryz.prog.info? 124).map (fun i=>(i.zero,i.size,i.bytes))=some (some (.agg #[.int .i64 0,.int .i64 0,.slice none 0 0,.int .i64 0]),4,48):=by kernel_rfl
theorem Ya(x y:Hm)(w:World):Calls prog 95 #[.agg #[.int .i64 x.1.key.1,.int .i64 x.1.key.2,.slice x.2.1 x.1.f.length x.2.2,.int .i64 x.1.fr],.agg #[.int .i64 y.1.key.1,.int .i64 y.1.key.2,.slice y.2.1 y.1.f.length y.2.2,.int .i64 y.1.fr]] w fun e w'=>e=.returned (.int .i64 (cK x.1.key y.1.key))/\Gx w w':=by go_enter func95,ntmps95;go_wp2_with fail;refine(pU x.1.key y.1.key _).mono ?_;rintro e w1 ⟨rfl,g1⟩;have G1:=hZ ((((Gx.refl w).alloc _).alloc _).trans g1);clear g1;go_wp2_with fail;go_ret;exact⟨rfl,G1.out⟩
def cH(x y:Hm):Int:=cK x.1.key y.1.key
theorem ltH(x y:Hm):ltOf cH x y=klt x.1.key y.1.key:=by unfold ltOf;exact Uq _ _
theorem aBJ:SWO (ltOf cH) where
 irrefl x:=by rw[ltH];exact jS _
 trans x y z h1 h2:=by rw[ltH] at *;exact mE h1 h2
 ntrans x y z h1 h2:=by have:=aAP.ntrans x.1.key y.1.key z.1.key;simp only[ltK] at this;rw[ltH] at *;exact this h1 h2
theorem aBR(blk off size:Nat)(w:World):CmpLays prog 95 #[] lA 4 cH blk off size w:=
 fun _ _ _ _ x y=>Ya x y _
theorem yL(L:List Hm)(g cap:Nat)(w0 w:World)(hn:L.length<4611686018427387904)(hg:Gr w0 w)(h:w.ownsRow w0.heap.size 124 4 (.slice (some ⟨g,0,none⟩) L.length cap) L.length (hH L)):Calls prog 94 #[.slice (some ⟨g,0,none⟩) L.length cap,.func (.func 95) #[] #[]] w fun e w'=>e=.returned (.tuple #[])/\∃L',L'.Perm L/\L'.Pairwise (fun x y=>klt y.1.key x.1.key=false)/\w'.ownsRow w0.heap.size 124 4 (.slice (some ⟨g,0,none⟩) L'.length cap) L'.length (hH L')/\Gr w0 w':=by
 have eg:∀args w,(callFunc 95 args).run prog w=.ok (.enter 95 args) w:=enters_of func95 (by kernel_rfl) rfl;have hlt:g<w.heap.size:=by
  rcases h.2 with⟨hv,_⟩|⟨b,cap',cur,hv,hb,hh,_⟩
  ·cases hv
  ·simp only[Value.slice.injEq,dN,Addr.mk.injEq,and_true,true_and] at hv;rw[hv.1];exact fZ hh
 have hcon:=AnyQ.slices_SortFunc Tryz.sortH 4 Tryz.isAgg124 Tryz.sizeOf124 lA (fun _=>rfl) (fun x v hv=>by simp[lA] at hv;rcases hv with rfl|rfl|rfl|rfl<;>rfl) cH aBJ 95 #[] g 0 cap L.toArray w eg (aBR g 0 L.toArray.size w) (Gq (enc:=lA) (k:=4) (fun _=>rfl) (by decide) h) hlt (by simpa using hn);simp only[cS] at hcon;refine hcon.mono ?_;rintro e w' ⟨rfl,d',m,os,hp,hs,rfl⟩;have hsz:d'.size=L.length:=by have:=hp.1;simpa using this
 have hd:d'=d'.toList.toArray:=by simp
 have hperm:d'.toList.Perm L:=by
  have h2:=hp.2.2;rw[<-hsz] at h2;have e1:d'.extract 0 d'.size=d':=Array.extract_size;have e2:L.toArray.extract 0 d'.size=L.toArray:=by rw[hsz];simp
  rw[e1,e2] at h2;simpa using h2
 refine⟨rfl,d'.toList,hperm,?_,?_⟩
 ·rw[bZ];intro i j hi hj hij;have:=hs i j zZ hij (by simpa[hsz] using hj);rw[ltH,getElem!_pos d' j (by simpa using hj),getElem!_pos d' i (by simpa using hi)] at this;simpa using this
 ·have:=yK (enc:=lA) (k:=4) (fun _=>rfl) (by decide) (m:=m) (os:=os) (d:=L) (d':=d'.toList) (by simpa using hsz) hg h;rw[<-hd] at this;exact this
theorem aBA(ad:Option Addr)(cap:Nat)(w:World):Calls prog 122 #[.slice ad 0 cap,.int .i64 0,.int .i64 0,.func (.func 95) #[] #[]] w fun e w'=>e=.returned (.tuple #[])/\Gr w w':=by go_enter func122,ntmps122;go_wp2_with fail;refine wp_loop_rounds 1 ?_;rw[rounds_succ];go_wp2_with fail;go_end0;exact⟨rfl,gZ⟩
theorem aAU(ad:Option Addr)(cap:Nat)(l:Int)(w:World):Calls prog 106 #[.slice ad 0 cap,.int .i64 0,.int .i64 0,.int .i64 l,.func (.func 95) #[] #[]] w fun e w'=>e=.returned (.tuple #[])/\Gr w w':=by go_enter func106,ntmps106;go_wp2_with fail;refine wp_loop_rounds 1 ?_;rw[rounds_succ];go_wp2_with fail;refine(aBA ad cap w).mono ?_;rintro e w1 ⟨rfl,g1⟩;go_wp2_with fail;exact bodyPost_ret (v:=.tuple #[]) (by simp[results,results106,go_sem]) rfl ⟨rfl,g1⟩
theorem yM(ad:Option Addr)(cap:Nat)(w:World):Calls prog 94 #[.slice ad 0 cap,.func (.func 95) #[] #[]] w fun e w'=>e=.returned (.tuple #[])/\Gr w w':=by go_enter func94,ntmps94;go_wp2_with fail;refine(Tryz.bits_Len 0 w (by decide) (by decide)).mono ?_;rintro e w1 ⟨rfl,hw⟩;have hw':=hw.symm;clear hw;subst hw';go_wp2_with fail;refine(aAU ad cap _ w).mono ?_;rintro e w1 ⟨rfl,g1⟩;go_wp2_with fail;go_end0;exact⟨rfl,g1⟩
structure Hl(X:List Hm)(es:Array MapEntry)(p:Hm->Bool)(seen:Array Nat)(L:List Hm):Prop where
 mem:∀x,x∈L↔∃e∈es.toList,seen.contains e.born=true/\x∈X/\e.key=pk x.1.key/\p x=true
 nd:L.Pairwise fun x y=>x.1.key≠y.1.key
theorem Hl.len{p:Hm->Bool}{L:List Hm}(h:Hl X es p seen L):L.length<=X.length:=by have:=nC (L.map fun x=>x.1.key) (X.map fun x=>x.1.key) (by rw[cB];exact h.nd) (fun k hk=>by obtain⟨x,hx,rfl⟩:=aC.1 hk;obtain⟨_,_,_,hx',_⟩:=(h.mem x).1 hx;exact aC.2 ⟨x,hx',rfl⟩);simpa using this
theorem Hl.init(X:List Hm)(es:Array MapEntry)(p:Hm->Bool):Hl X es p #[] []:=⟨fun x=>by simp,List.Pairwise.nil⟩
theorem Hl.skip{MB:Nat}{p:Hm->Bool}{L:List Hm}(h:Hl X es p seen L)(hp:Hp w MB X es clock){e:MapEntry}(he:e∈es.toList)(hx:x∈X)(hk:e.key=pk x.1.key)(hf:p x=false):Hl X es p (seen.push e.born) L:=by
 refine⟨fun y=>?_,h.nd⟩;rw[h.mem y];constructor
 ·rintro⟨e',h1,h2,h3⟩;exact⟨e',h1,by rw[contains_push,h2];rfl,h3⟩
 ·rintro⟨e',h1,h2,hy,h4,h5⟩;rw[contains_push] at h2;rcases cN _ _▸h2 with h2|h2
  ·exact⟨e',h1,h2,hy,h4,h5⟩
  ·have hee:e'=e:=born_inj hp.mp.bnd h1 he (beq_iff_eq.1 h2);subst hee;have:y=x:=hp.inj hy hx (h4.symm.trans hk);subst this;rw[h5] at hf;cases hf
theorem Hl.take{MB:Nat}{p:Hm->Bool}{L:List Hm}(h:Hl X es p seen L)(hp:Hp w MB X es clock){e:MapEntry}(he:e∈es.toList)(hns:seen.contains e.born=false)(hx:x∈X)(hk:e.key=pk x.1.key)(hf:p x=true):Hl X es p (seen.push e.born) (L++[x]):=by
 refine⟨fun y=>?_,?_⟩
 ·rw[aE,h.mem y,aM];constructor
  ·rintro(⟨e',h1,h2,h3⟩|rfl)
   ·exact⟨e',h1,by rw[contains_push,h2];rfl,h3⟩
   ·exact⟨e,he,by rw[contains_push];simp,hx,hk,hf⟩
  ·rintro⟨e',h1,h2,hy,h4,h5⟩;rw[contains_push] at h2;rcases cN _ _▸h2 with h2|h2
   ·exact Or.inl ⟨e',h1,h2,hy,h4,h5⟩
   ·have hee:e'=e:=born_inj hp.mp.bnd h1 he (beq_iff_eq.1 h2);subst hee;exact Or.inr (hp.inj hy hx (h4.symm.trans hk))
 ·rw[eR];refine⟨h.nd,eY _ _,fun a ha b hb=>?_⟩;simp only[aM] at hb;subst hb;intro hab;obtain⟨e',h1,h2,hy,h4,h5⟩:=(h.mem a).1 ha;have:a=b:=hp.inj hy hx (by rw[hab]);subst this;have hee:e'=e:=by have hd:=hp.mp.nod;rw[<-hp.mp.ent,bV] at hd;exact vD hd h1 he (h4.trans hk.symm)
  subst hee;rw[h2] at hns;cases hns
theorem Hl.all{MB:Nat}{p:Hm->Bool}{L:List Hm}(h:Hl X es p seen L)(hp:Hp w MB X es clock)(h0:(leftOf es seen).size=0)(x:Hm):x∈L↔x∈X/\p x=true:=by
 rw[h.mem x];constructor
 ·rintro⟨_,_,_,hx,_,h5⟩;exact⟨hx,h5⟩
 ·rintro⟨hx,h5⟩;obtain⟨e,he,h1,_⟩:=hp.all hx;exact⟨e,he,all_seen es seen h0 e he,hx,h1,h5⟩
def woP(X:List Hm)(n:Int)(h:Hw)(x:Hm):Bool:=!(x.1.fr==n)&&iW cov h x.1&&isT cov (X.map (·.1)) n x.1
theorem wZ(TB HB hoff nb hcap b MB:Nat)(n:Int)(h:Hw)(a':Option Addr)(c':Nat)(X:List Hm)(es:Array MapEntry)(clock:Nat)(m:Int)(w:World)(c0:w.cell? ⟨TB,0,none⟩=some (.slice (some ⟨HB,hoff,none⟩) nb hcap))(cb:w.cell? ⟨HB,hoff+b,none⟩=some (.map (some MB)))(hb:b<nb)(hTB:TB<w.heap.size)(hHB:HB<w.heap.size)(hX:X.length<=1048576)(hp:Hp w MB X es clock)(hh:FiM w a' h.f)(hM:Ml m w):Calls prog 74 #[.pointer (some ⟨TB,0,none⟩),.int .i64 b,.int .i64 n,.agg (hv h a' c')] w fun e w'=>∃v L,e=.returned v/\w'.ownsRow w.heap.size 124 4 v L.length (hH L)/\L.Pairwise (fun x y=>klt x.1.key y.1.key=true)/\(∀x,x∈L↔x∈X/\woP X n h x=true)/\Gr w w':=by
 obtain⟨i0,hi,hz0,hz1,hz2⟩:=info_parts Tryz.infoHold;have HP:=hZ hp;have HH:=hZ hh;have HM:=hZ hM;have HC0:=hZ c0;have HCB:=hZ cb;clear hp hh hM;unfold hv;have ga:Gr w (w.alloc (.cells #[.int .i64 h.key.1,.int .i64 h.key.2,.slice a' h.f.length c',.int .i64 h.fr] 124)):=(Gr.refl w).alloc _;have hrg:=run_range_map (P:=prog) (w.alloc (.cells #[.int .i64 h.key.1,.int .i64 h.key.2,.slice a' h.f.length c',.int .i64 h.fr] 124)) 111 97 124 MB es clock underlying111 (HP.gr ga).mp.blk;have hsz:(w.alloc (.cells #[.int .i64 h.key.1,.int .i64 h.key.2,.slice a' h.f.length c',.int .i64 h.fr] 124)).heap.size=w.heap.size+1:=by simp
 rw[hsz] at hrg;have GA:=hZ ga;clear ga hsz;go_enter func74,ntmps74;go_wp2_with fail;have H0:=hZ (gK (gZ.alloc (.mapIter (some MB) clock #[] clock)) (fY w (.cells #[.int .i64 h.key.1,.int .i64 h.key.2,.slice a' h.f.length c',.int .i64 h.fr] 124)));have I0:Hid (((w.alloc (.cells #[.int .i64 h.key.1,.int .i64 h.key.2,.slice a' h.f.length c',.int .i64 h.fr] 124)).alloc (.mapIter (some MB) clock #[] clock)).heap[w.heap.size+1]?=some (.mapIter (some MB) clock #[] clock)):=by have:=fY (w.alloc (.cells #[.int .i64 h.key.1,.int .i64 h.key.2,.slice a' h.f.length c',.int .i64 h.fr] 124)) (.mapIter (some MB) clock #[] clock);rw[show(w.alloc (.cells #[.int .i64 h.key.1,.int .i64 h.key.2,.slice a' h.f.length c',.int .i64 h.fr] 124)).heap.size=w.heap.size+1 by simp] at this;exact this
 have G0:=hZ (GA.alloc (.mapIter (some MB) clock #[] clock));clear hrg GA c0 cb;go_loopw [9] (fun v wr=>∃(seen:Array Nat)(L:List Hm),Hid (wr.heap[w.heap.size+1]?=some (.mapIter (some MB) clock seen clock))/\Hid (Gr w wr)/\Hid (wr.heap[w.heap.size]?=some (.cells #[.int .i64 h.key.1,.int .i64 h.key.2,.slice a' h.f.length c',.int .i64 h.fr] 124 (0,0))) /\Hid (wr.ownsRow (w.heap.size+1) 124 4 v L.length (hH L))/\Hid (Hl X es (woP X n h) seen L)) (fun _ wr=>(leftOf es (wr.iterSeen (w.heap.size+1))).size);case atStart=>exact⟨#[],[],I0,G0,H0,bF _ _ _ _,Hl.init X es _⟩
 case round=>
  clear I0 G0 H0;obtain⟨seen,L,IT,G,HB1,O,KL⟩:=hrel;obtain⟨va,vm,vk,rfl⟩:=gL O.out;have HMS:Hid (leftOf es (wr.iterSeen (w.heap.size+1))=leftOf es seen):=by show _=_;unfold World.iterSeen;rw[IT.out]
  have HLN:=hZ KL.len;rcases uR (HP.gr G.out) IT (cD _) G.out with⟨h0,hnx⟩|⟨e,he,W2,hnx,hen,hit2,g2,hoth,hsz2⟩
  ·have HA:=hZ (KL.all HP h0);have HND:=hZ KL.nd;have O1:=hZ (show wr.ownsRow w.heap.size 124 4 (.slice va vm vk) L.length (hH L) from⟨O.1,by
    rcases O.2 with h1|⟨b1,c1,u1,q1,q2,q3⟩
    ·exact Or.inl h1
    ·exact Or.inr ⟨b1,c1,u1,q1,by omega,q3⟩⟩)
   clear h0 O KL HMS HB1 IT;obtain⟨va',vk',he',hsh⟩:=gH O1.out;(obtain⟨rfl,rfl,rfl⟩:va=va'/\vm=L.length/\vk=vk':=by injection he' with h1 h2 h3;exact⟨h1,h2,h3⟩);clear he';by_cases hL:L=[]
   ·subst hL;have HS:=hZ (yM va vk wr);go_wp2_with fail;refine HS.mono ?_;rintro e w3 ⟨rfl,g3⟩;have G3:=hZ (Gr.call G g3);have O3:=hZ (gO O1 g3);go_wp2_with fail;go_ret;exact⟨_,[],rfl,O3.out,List.Pairwise.nil,HA.out,G3.out⟩
   ·obtain⟨g,rfl⟩:=hsh (by cases L with|nil=>exact absurd rfl hL|cons a t=>simp);have HS:=hZ (yL L g vk w wr (by have:=HLN.out;omega) G O1.out);clear hL hsh;go_wp2_with fail;refine HS.mono ?_;rintro e w3 ⟨rfl,L',hp,hs,ho,g3⟩;have hlen:=hp.length_eq;have G3:=hZ g3;have O3:=hZ ho;rw[hlen] at O3;have SR:Hid (L'.Pairwise fun x y=>klt x.1.key y.1.key=true):=by
     have hnd:L'.Pairwise fun x y=>x.1.key≠y.1.key:=hp.symm.pairwise HND (fun{a b} h=>h.symm);refine fH ?_ (List.Pairwise.and hs hnd);rintro a b ⟨h1,h2⟩;rcases vA a.1.key b.1.key with h3|h3|h3
     ·exact h3
     ·exact absurd h3 h2
     ·rw[h3] at h1;cases h1
    have MB':Hid (∀x,x∈L'↔x∈X/\woP X n h x=true):=fun x=>(hp.mem_iff).trans (HA x);have HLE:=hZ hlen;clear hp hs ho g3 hlen;go_wp2_with fail;go_ret;exact⟨_,L',rfl,by rw[HLE.out];exact O3.out,SR.out,MB'.out,G3.out⟩
  ·obtain⟨x,hx,hk,hv'⟩:=HP.ent (mem_left he).1;rw[hv'] at hnx hen;rw[hk] at hnx hen;unfold hv pk at hnx hen;have IT2:=hZ hit2;have G2:=hZ g2;have B2:Hid (W2.heap[w.heap.size]?=some (.cells #[.int .i64 h.key.1,.int .i64 h.key.2,.slice a' h.f.length c',.int .i64 h.fr] 124 (0,0))):=(hoth _ (by omega)).trans HB1.out;have F2:=hZ ((HP.fi x hx).gr g2);have HH2:=hZ (HH.gr g2);have hW2:w.heap.size+2<=W2.heap.size:=fZ IT2.out;have HNE:Hid (Value.ownBlock (.slice va vm vk)≠some (w.heap.size+1)):=by
    intro h5;rcases O.2 with⟨h6,_⟩|⟨b',cap',cur,h6,_,h7,_⟩
    ·rw[h6] at h5;simp[Value.ownBlock] at h5
    ·rw[h6] at h5;(have:b'=w.heap.size+1:=by simpa[Value.ownBlock] using h5);subst this;rw[IT.out] at h7;cases h7
   have O2:Hid (W2.ownsRow (w.heap.size+1) 124 4 (.slice va vm vk) L.length (hH L)):=by
    obtain⟨q1,q2⟩:=O.out;refine⟨q1,?_⟩;rcases q2 with q2|⟨b',cap',cur,h6,h8,h7,q3⟩
    ·exact Or.inl q2
    ·refine Or.inr ⟨b',cap',cur,h6,h8,?_,q3⟩;rw[hoth b' (fun h9=>HNE (by rw[h6,h9];rfl))];exact h7
   (have NXT:Hid (∀(L':List Hm),Hl X es (woP X n h) (seen.push e.born) L'->∀(v':Value)(w':World),w'.heap[w.heap.size+1]?=some (.mapIter (some MB) clock (seen.push e.born) clock)->Gr w w'->w'.heap[w.heap.size]?=some (.cells #[.int .i64 h.key.1,.int .i64 h.key.2,.slice a' h.f.length c',.int .i64 h.fr] 124 (0,0))->w'.ownsRow (w.heap.size+1) 124 4 v' L'.length (hH L') ->(∃(seen:Array Nat)(L:List Hm),Hid (w'.heap[w.heap.size+1]?=some (.mapIter (some MB) clock seen clock))/\Hid (Gr w w')/\Hid (w'.heap[w.heap.size]?=some (.cells #[.int .i64 h.key.1,.int .i64 h.key.2,.slice a' h.f.length c',.int .i64 h.fr] 124 (0,0)))/\Hid (w'.ownsRow (w.heap.size+1) 124 4 v' L.length (hH L))/\Hid (Hl X es (woP X n h) seen L)) /\(leftOf es (w'.iterSeen (w.heap.size+1))).size<(leftOf es (wr.iterSeen (w.heap.size+1))).size):=by intro L' hL' v' w' h1 h2 h3 h4;refine⟨⟨_,L',h1,h2,h3,h4,hL'⟩,?_⟩;rw[HMS.out];unfold World.iterSeen;rw[h1];exact left_shrinks es seen e he);have SKIP:=hZ (fun hf=>KL.skip HP (mem_left he).1 hx hk hf);have TAKE:=hZ (fun hf=>KL.take HP (mem_left he).1 (mem_left he).2 hx hk hf);have GX:=hZ ((Gr.refl W2).alloc (.cells #[.int .i64 x.1.key.1,.int .i64 x.1.key.2,.slice x.2.1 x.1.f.length x.2.2,.int .i64 x.1.fr] 124));clear he hk hx hit2 g2 hoth hsz2 hv' G IT O KL HMS HB1;(have hlt2:w.heap.size<W2.heap.size:=by omega);(have b0:W2.cell? ⟨w.heap.size,0,none⟩=some (.int .i64 h.key.1):=by rw[cZ B2.out];rfl);(have b1:W2.cell? ⟨w.heap.size,1,none⟩=some (.int .i64 h.key.2):=by rw[cZ B2.out];rfl);(have b2:W2.cell? ⟨w.heap.size,2,none⟩=some (.slice a' h.f.length c'):=by rw[cZ B2.out];rfl);(have b3:W2.cell? ⟨w.heap.size,3,none⟩=some (.int .i64 h.fr):=by rw[cZ B2.out];rfl);by_cases hn:x.1.fr=n
   ·subst hn;have N1:=hZ (NXT L (SKIP (by simp[woP])) (.slice va vm vk) _ ((GX.block _ (by omega)).trans IT2.out) (Gr.call G2 GX.out) (gK GX B2.out) (gO O2 GX.out));clear NXT SKIP TAKE;go_wp2_with fail;exact N1.out
   ·(have hn':(x.1.fr==n)=false:=by simpa using hn);go_wp2_with fail;refine(Cn h x.1 a' x.2.1 c' x.2.2 m _ (HH2.gr GX.out) (F2.gr GX.out) ((Gr.call G2 GX.out).ml HM.out)).mono ?_;cases hhd:iW cov h x.1 with
    |false=>rintro e' w3 ⟨rfl,g3⟩;have GY:=hZ (Gr.call GX g3);have N1:=hZ (NXT L (SKIP (by simp[woP,hhd])) (.slice va vm vk) w3 ((GY.block _ (by omega)).trans IT2.out) (Gr.call G2 GY.out) (gK GY B2.out) (gO O2 GY.out));clear NXT SKIP TAKE g3;go_wp2_with fail;exact N1.out
    |true=>
     rintro e' w3 ⟨rfl,g3⟩;have GY:=hZ (Gr.call GX g3);have GW:=hZ (Gr.call G2 GY.out);have XB:=hZ (gK g3 (fY W2 (.cells #[.int .i64 x.1.key.1,.int .i64 x.1.key.2,.slice x.2.1 x.1.f.length x.2.2,.int .i64 x.1.fr] 124)));clear g3;(have g0:w3.cell? ⟨W2.heap.size,0,none⟩=some (.int .i64 x.1.key.1):=by rw[cZ XB.out];rfl);(have g1:w3.cell? ⟨W2.heap.size,1,none⟩=some (.int .i64 x.1.key.2):=by rw[cZ XB.out];rfl);(have g2:w3.cell? ⟨W2.heap.size,2,none⟩=some (.slice x.2.1 x.1.f.length x.2.2):=by rw[cZ XB.out];rfl);(have g3:w3.cell? ⟨W2.heap.size,3,none⟩=some (.int .i64 x.1.fr):=by rw[cZ XB.out];rfl);have HT:=hZ (zU TB HB hoff nb hcap b MB n x.1 x.2.1 x.2.2 X es clock m w3 ((GW.cell (p:=⟨TB,0,none⟩) hTB).trans HC0.out) ((GW.cell (p:=⟨HB,hoff+b,none⟩) hHB).trans HCB.out) hb (GW.lt hTB) (GW.lt hHB) (HP.gr GW.out) (F2.gr GY.out) (GW.ml HM.out));unfold hv at HT;go_wp2_with fail;refine HT.mono ?_;cases hit:isT cov (X.map (·.1)) n x.1 with
     |false=>rintro e' w4 ⟨rfl,g4⟩;have GZ:=hZ (Gr.call GY g4);have N1:=hZ (NXT L (SKIP (by simp[woP,hit])) (.slice va vm vk) w4 ((GZ.block _ (by omega)).trans IT2.out) (Gr.call G2 GZ.out) (gK GZ B2.out) (gO O2 GZ.out));clear NXT SKIP TAKE g4 HT;go_wp2_with fail;exact N1.out
     |true=>
      rintro e' w4 ⟨rfl,g4⟩;have GZ:=hZ (Gr.call GY g4);have XC:=hZ (gK g4 XB.out);have KL2:=hZ (TAKE (by simp[woP,hn',hhd,hit]));have O4:=hZ (gO O2 GZ.out);have G4:=hZ (Gr.call G2 GZ.out);have hs4:w.heap.size+1<w4.heap.size:=aF (by omega) GZ.size;clear SKIP TAKE g4 HT g0 g1 g2 g3;(have g0:w4.cell? ⟨W2.heap.size,0,none⟩=some (.int .i64 x.1.key.1):=by rw[cZ XC.out];rfl);(have g1:w4.cell? ⟨W2.heap.size,1,none⟩=some (.int .i64 x.1.key.2):=by rw[cZ XC.out];rfl);(have g2:w4.cell? ⟨W2.heap.size,2,none⟩=some (.slice x.2.1 x.1.f.length x.2.2):=by rw[cZ XC.out];rfl);(have g3:w4.cell? ⟨W2.heap.size,3,none⟩=some (.int .i64 x.1.fr):=by rw[cZ XC.out];rfl);go_wp2_with(at_builtin;refine wpList_append_own _ rfl _ _ 176 rfl (w.heap.size+1) 124 i0 _ 4 48 underlying176 hi hz0 hz1 hz2 rfl (by decide) _ _ _ rfl (O4.alloc _) ⟨w4.heap.size,0,none⟩ 1 1 [.int .i64 x.1.key.1,.int .i64 x.1.key.2,.slice x.2.1 x.1.f.length x.2.2,.int .i64 x.1.fr] rfl rfl (World.news_of_block (jN rfl)) ?k2 ?k3 ?k4 ?k5 ?_);case k2=>intro t ht;simp at ht;rcases ht with rfl|rfl|rfl|rfl<;>rfl
      case k3=>have:=HLN.out;unfold maxLen;omega
      case k4=>have:=HLN.out;omega
      case k5=>simp;omega
      intro v5 w5 ho5 hg5 _;have low:∀q,Value.ownBlock (.slice va vm vk)=some q->w.heap.size+1<=q:=iC O4.out;have G5:Hid (Gr w w5):=Below.grown (G4.alloc _) hg5 (aA G4.size (by simp)) (fun q hq=>by have:=low q hq;omega);(have I5:Hid (w5.heap[w.heap.size+1]?=some (.mapIter (some MB) clock (seen.push e.born) clock)):=by show _=_;rw[hg5.block _ (by simp;omega) (fun h5=>HNE h5.symm),Below.heap_alloc _ _ _ (by omega),GZ.block _ (by omega)];exact IT2.out);(have B5:Hid (w5.heap[w.heap.size]?=some (.cells #[.int .i64 h.key.1,.int .i64 h.key.2,.slice a' h.f.length c',.int .i64 h.fr] 124 (0,0))):=by show _=_;rw[hg5.block _ (by simp;omega) (fun h5=>by have:=low _ h5.symm;omega),Below.heap_alloc _ _ _ (by omega),GZ.block _ (by omega)];exact B2.out);(have O5:w5.ownsRow (w.heap.size+1) 124 4 v5 (L++[x]).length (hH (L++[x])):=by rw[kU,aG];exact ho5);have N1:=hZ (NXT (L++[x]) KL2 v5 w5 I5 G5 B5 O5);obtain⟨ya,ym,yk,rfl⟩:=gL ho5;clear ho5 hg5 O4 O2 NXT O5 low;go_wp2_with fail;exact N1.out
end Go.Proofs.YtecnfgikbmcgoabGreat
