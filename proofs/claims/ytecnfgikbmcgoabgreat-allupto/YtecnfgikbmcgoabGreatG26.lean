import Derived.Test.YtecnfgikbmcgoabGreatG25
set_option maxHeartbeats 8000000
set_option maxRecDepth 100000
namespace Go.Proofs.YtecnfgikbmcgoabGreat
open Go.Proofs.Tryz
open Go.RowKit
variable {A:Nat->Prop}{Ls:List Rln}{R' r1 r1':Nat->Rl}{T:Tc}{X:List Hm}{Xs:Nat->List Hm}{a' ta va:Option Addr}{ads:Nat->Option Addr×Nat}{c' tc vk:Nat}{cs:List Value}{es:List Ky}{lv v':Value}{w w' w0 wr:World}
theorem vF{b:Nat}{cur:Array Value}{e:TypeId}(h:w.heap[b]?=some (.cells cur e (0,0)))(o:Nat):w.frozen? ⟨b,o,none⟩=false:=by simp[World.frozen?,h]
theorem Qr.rowAt{e:TypeId}{size:Nat}{R:Nat->Prop}{ad:Option Addr}{n cap:Nat}{xs:List Value}(h:Qr w e size R (.slice ad n cap) n xs):jM w ad xs:=by
 rcases h.2 with⟨_,h3⟩|⟨g,off,cap',cur,hv,_,hg,_⟩
 ·left;have:=h.1;rw[h3,eJ] at this;exact dP this
 ·right;injection hv with hv _ _;subst hv;exact⟨g,off,rfl,fZ hg,fun i v hi=>h.cellAt hi⟩
theorem Qr.set{e:TypeId}{size:Nat}{R:Nat->Prop}{g off n cap:Nat}{xs:List Value}(h:Qr w e size R (.slice (some ⟨g,off,none⟩) n cap) n xs)(j:Nat)(u:Value):Qr (w.setCell ⟨g,off+j,none⟩ u) e size R (.slice (some ⟨g,off,none⟩) n cap) n (xs.set j u):=by
 refine⟨by rw[bR];exact h.1,?_⟩;rcases h.2 with⟨h2,_⟩|⟨g',off',cap',cur,hv,hR,hg,h4,h5,h6,h7⟩
 ·cases h2
 ·injection hv with hv _ hc;injection hv with hv;injection hv with h1 h2;subst h1 h2 hc;refine Or.inr ⟨g,off,cap,cur.setIfInBounds (off+j) u,rfl,hR,heap_setCell_same _ _ _ _ _ _ hg,h4,h5,by rw[Array.size_setIfInBounds];exact h6,?_⟩;rw[cR,List.drop_set,if_neg (by omega),eZ,List.take_set,h7]
theorem Qr.some'{e:TypeId}{size:Nat}{R:Nat->Prop}{v:Value}{n:Nat}{xs:List Value}(h:Qr w e size R v n xs)(hn:0<n):∃g off cap cur,v=.slice (some ⟨g,off,none⟩) n cap/\R g/\w.heap[g]?=some (.cells cur e (0,0))/\off+cap*size<=cur.size/\n<=cap:=by
 rcases h.2 with⟨_,h3⟩|⟨g,off,cap,cur,hv,hR,hg,h4,_,h6,_⟩
 ·omega
 ·exact⟨g,off,cap,cur,hv,hR,hg,h6,h4⟩
def iB(x:Rms):List Value:=
 match x.ms with
 |.sub k f=>[.int .i64 1,.int .i64 k.1,.int .i64 k.2,.slice x.ad f.length x.cap,.slice none 0 0]
 |.uns k=>[.int .i64 2,.int .i64 k.1,.int .i64 k.2,.slice none 0 0,.slice none 0 0]
 |.ev e=>[.int .i64 3,.int .i64 0,.int .i64 0,.slice none 0 0,.slice x.ad e.length x.cap]
theorem Fk(x:Rms):(iB x).length=5:=by unfold iB;split<;>rfl
structure FiO(A:Nat->Prop)(w:World)(ad:Option Addr)(l:List Wnt):Prop where
 m:FiM w ad l
 r:∃b off,ad=some ⟨b,off,none⟩/\A b
theorem FiO.keep{ad:Option Addr}{l:List Wnt}(h:FiO A w ad l)(hs:w.heap.size<=w'.heap.size)(hk:∀k,k<w.heap.size->A k->w'.heap[k]?=w.heap[k]?):FiO A w' ad l:=by obtain⟨hm,b,off,rfl,ha⟩:=h;exact⟨hm.blk hs (hk b hm.lt ha),b,off,rfl,ha⟩
structure EvO(A:Nat->Prop)(w:World)(ad:Option Addr)(l:List Atr):Prop where
 m:EvM w ad l
 r:∃b off,ad=some ⟨b,off,none⟩/\A b
theorem EvO.keep{ad:Option Addr}{l:List Atr}(h:EvO A w ad l)(hs:w.heap.size<=w'.heap.size)(hk:∀k,k<w.heap.size->A k->w'.heap[k]?=w.heap[k]?):EvO A w' ad l:=by obtain⟨⟨⟨b,off,h1,h2,h3⟩,hwf,hok⟩,b',off',h4,h5⟩:=h;have e:=h1.symm.trans h4;injection e with e;injection e with e1 e2;subst e1;exact⟨⟨⟨b,off,h1,aF h2 hs,h3.blk (hk b h2 h5)⟩,hwf,hok⟩,b,off,h1,h5⟩
def sF(A:Nat->Prop)(w:World)(x:Rms):Prop:=
 match x.ms with
 |.sub _ f=>FiO A w x.ad f
 |.uns _=>True
 |.ev e=>EvO A w x.ad e
theorem sF.keep{x:Rms}(h:sF A w x)(hs:w.heap.size<=w'.heap.size)(hk:∀k,k<w.heap.size->A k->w'.heap[k]?=w.heap[k]?):sF A w' x:=by
 unfold sF at h ⊢;split
 ·rename_i k f e;rw[e] at h;exact FiO.keep h hs hk
 ·trivial
 ·rename_i v e;rw[e] at h;exact EvO.keep h hs hk
def qX(R:Nat->Rl)(w:World)(ad:Option Addr)(cs:List Value):Prop:=cs=[]\/∃b off,ad=some ⟨b,off,none⟩/\R b=.fx/\b<w.heap.size/\∀i v,cs[i]?=some v->w.cell? ⟨b,off+i,none⟩=some v
theorem qX.at'{R:Nat->Rl}{ad:Option Addr}(h:qX R w ad cs):jM w ad cs:=by
 rcases h with h|⟨b,off,h1,_,h2,h3⟩
 ·exact Or.inl h
 ·exact Or.inr ⟨b,off,h1,h2,h3⟩
theorem qX.keep{R:Nat->Rl}{ad:Option Addr}(h:qX R w ad cs)(hs:w.heap.size<=w'.heap.size)(hk:∀k,k<w.heap.size->R k=.fx->w'.heap[k]?=w.heap[k]?)(hr:∀k,k<w.heap.size->R' k=R k):qX R' w' ad cs:=by
 rcases h with h|⟨b,off,h1,h0,h2,h3⟩
 ·exact Or.inl h
 ·exact Or.inr ⟨b,off,h1,(hr b h2).trans h0,aF h2 hs,fun i v hi=>by rw[hN (hk b h2 h0)];exact h3 i v hi⟩
theorem qX.of_owns{lo n size:Nat}{e:TypeId}(h:w.ownsRow lo e size (.slice va n vk) n cs){R:Nat->Rl}(hR:∀k,Value.ownBlock (.slice va n vk)=some k->R k=.fx):qX R w va cs:=by
 rcases h.2 with⟨hv,hn⟩|⟨g,cap,cur,hv,_,hg,_,_,_,ht⟩
 ·left;have:=h.1;rw[hn,eJ] at this;exact dP this
 ·right;injection hv with hv _ _;subst hv;refine⟨g,0,rfl,hR g rfl,fZ hg,fun i v hi=>?_⟩;rw[cell_of_row w g (0+i) cur e (0,0) hg];rw[<-ht,fD] at hi;split at hi
  ·simpa using hi
  ·cases hi
theorem qX.of_qr{n size:Nat}{e:TypeId}{P:Nat->Prop}(h:Qr w e size P (.slice va n vk) n cs){R:Nat->Rl}(hR:∀k,P k->R k=.fx):qX R w va cs:=by
 rcases h.2 with⟨_,hn⟩|⟨g,off,cap,cur,hv,hP,hg,_⟩
 ·left;have:=h.1;rw[hn,eJ] at this;exact dP this
 ·right;injection hv with hv _ _;subst hv;exact⟨g,off,rfl,hR g hP,fZ hg,fun i v hi=>h.cellAt hi⟩
structure Rc where
 nb:Nat
 TB:Nat
 HB:Nat
 hcap:Nat
structure Rb(A:Nat->Prop)(C:Rc)(R:Nat->Rl)(w:World)(hv:Nat->Value)(lv cv:Value):Prop where
 nb8:C.nb<=8
 pos:0<C.nb
 t:w.heap[C.TB]?=some (.cells #[.slice (some ⟨C.HB,0,none⟩) C.nb C.hcap,lv,cv] 102 (0,0))
 rT:R C.TB=.cm
 h:∃cur,w.heap[C.HB]?=some (.cells cur 132 (0,0))/\∀b,b<C.nb->cur[b]?=some (hv b)
 rH:R C.HB=.hm 0
 top:∀k,w.heap.size<=k->R k=.no
 aR:∀k,A k->R k=.no
 aL:∀k,A k->k<w.heap.size
structure Rhh(A:Nat->Prop)(nb:Nat)(R:Nat->Rl)(w:World)(ads:Nat->Option Addr×Nat)(Xs:Nat->List Hm):Prop where
 row:∀b,b<nb->qX R w (ads b).1 (hH (Xs b))
 fi:∀b,b<nb->∀x∈Xs b,FiO A w x.2.1 x.1.f
structure Rlk(A:Nat->Prop)(R:Nat->Rl)(w:World)(lv:Value)(Ls:List Rln):Prop where
 lk:Qr w 117 4 (fun k=>R k=.lm) lv Ls.length (iH Ls)
 qu:∀j,j<Ls.length->Qr w 152 5 (fun k=>R k=.qu j 0) (.slice (gE Ls j).qad (gE Ls j).q.length (gE Ls j).qcap) (gE Ls j).q.length ((gE Ls j).q.flatMap iB)
 ms:∀l∈Ls,∀x∈l.q,sF A w x
 td:∀l∈Ls,qX R w l.tad (hG l.told)
structure Rck(A:Nat->Prop)(R:Nat->Rl)(w:World)(cv:Value)(cs:List Rcl):Prop where
 cl:Qr w 104 4 (fun k=>R k=.cl 0) cv cs.length (iF cs)
 bx:∀j,j<cs.length->Qr w 41 1 (fun k=>R k=.ch j) (.slice (kat cs j).bad (kat cs j).box.length (kat cs j).bcap) (kat cs j).box.length ((kat cs j).box.map bv)
 be:∀c∈cs,∀x∈c.box,EvO A w x.2.1 x.1
structure Rt(A:Nat->Prop)(C:Rc)(R:Nat->Rl)(w:World)(ads:Nat->Option Addr×Nat)(Xs:Nat->List Hm)(lv:Value)(Ls:List Rln)(cv:Value)(cs:List Rcl):Prop where
 b:Rb A C R w (fun b=>.slice (ads b).1 (Xs b).length (ads b).2) lv cv
 h:Rhh A C.nb R w ads Xs
 l:Rlk A R w lv Ls
 k:Rck A R w cv cs
variable {C:Rc}
theorem Rb.keep{R:Nat->Rl}{hv:Nat->Value}{cv:Value}(h:Rb A C R w hv lv cv)(hs:w.heap.size<=w'.heap.size)(hk:∀k,k<w.heap.size->(R k=.cm\/R k=.hm 0)->w'.heap[k]?=w.heap[k]?)(hr:∀k,k<w.heap.size->R' k=R k)(ht:∀k,w'.heap.size<=k->R' k=.no)(ha:∀k,A k->R' k=.no):Rb A C R' w' hv lv cv:=by obtain⟨cur,h1,h2⟩:=h.h;exact⟨h.nb8,h.pos,(hk _ (fZ h.t) (Or.inl h.rT)).trans h.t,(hr _ (fZ h.t)).trans h.rT,⟨cur,(hk _ (fZ h1) (Or.inr h.rH)).trans h1,h2⟩,(hr _ (fZ h1)).trans h.rH,ht,ha,fun k hk=>aF (h.aL k hk) hs⟩
theorem Rhh.keep{nb:Nat}{R:Nat->Rl}(h:Rhh A nb R w ads Xs)(hs:w.heap.size<=w'.heap.size)(hk:∀k,k<w.heap.size->(R k=.fx\/A k)->w'.heap[k]?=w.heap[k]?)(hr:∀k,k<w.heap.size->R' k=R k):Rhh A nb R' w' ads Xs:=⟨fun b hb=>(h.row b hb).keep hs (fun k h1 h2=>hk k h1 (Or.inl h2)) hr,fun b hb x hx=>(h.fi b hb x hx).keep hs (fun k h1 h2=>hk k h1 (Or.inr h2))⟩
theorem Rlk.keep{R:Nat->Rl}(h:Rlk A R w lv Ls)(hs:w.heap.size<=w'.heap.size)(hk:∀k,k<w.heap.size->(R k=.lm\/(∃j,R k=.qu j 0)\/R k=.fx\/A k)->w'.heap[k]?=w.heap[k]?)(hr:∀k,k<w.heap.size->R' k=R k):Rlk A R' w' lv Ls:=⟨h.lk.kept fun g hg hR=>⟨hk g hg (Or.inl hR),(hr g hg).trans hR⟩,fun j hj=>(h.qu j hj).kept fun g hg hR=>⟨hk g hg (Or.inr (Or.inl ⟨j,hR⟩)),(hr g hg).trans hR⟩,fun l hl x hx=>(h.ms l hl x hx).keep hs (fun k h1 h2=>hk k h1 (Or.inr (Or.inr (Or.inr h2)))),fun l hl=>(h.td l hl).keep hs (fun k h1 h2=>hk k h1 (Or.inr (Or.inr (Or.inl h2)))) hr⟩
theorem Rck.keep{R:Nat->Rl}{cv:Value}{cs:List Rcl}(h:Rck A R w cv cs)(hs:w.heap.size<=w'.heap.size)(hk:∀k,k<w.heap.size->(R k=.cl 0\/(∃j:Nat,R k=.ch j)\/A k)->w'.heap[k]?=w.heap[k]?)(hr:∀k,k<w.heap.size->R' k=R k):Rck A R' w' cv cs:=⟨h.cl.kept fun g hg hR=>⟨hk g hg (Or.inl hR),(hr g hg).trans hR⟩,fun j hj=>(h.bx j hj).kept fun g hg hR=>⟨hk g hg (Or.inr (Or.inl ⟨j,hR⟩)),(hr g hg).trans hR⟩,fun c hc x hx=>(h.be c hc x hx).keep hs (fun k h1 h2=>hk k h1 (Or.inr (Or.inr h2)))⟩
theorem Rt.gr{R:Nat->Rl}{cv:Value}{cs:List Rcl}(h:Rt A C R w ads Xs lv Ls cv cs)(g:Gr w w'):Rt A C R w' ads Xs lv Ls cv cs:=⟨h.b.keep g.size (fun k hk _=>g.block k hk) (fun _ _=>rfl) (fun k hk=>h.b.top k (aA g.size hk)) h.b.aR,h.h.keep g.size (fun k hk _=>g.block k hk) (fun _ _=>rfl),h.l.keep g.size (fun k hk _=>g.block k hk) (fun _ _=>rfl),h.k.keep g.size (fun k hk _=>g.block k hk) (fun _ _=>rfl)⟩
theorem Rt.apart{R:Nat->Rl}{cv:Value}{cs:List Rcl}(h:Rt A C R w ads Xs lv Ls cv cs)(g:Fr r1 r1' w w')(ha:∀k,R k=.no\/r1 k=.no)(hA:∀k,A k->r1 k=.no):Rt A C R w' ads Xs lv Ls cv cs:=by
 have e:∀k,k<w.heap.size->(R k≠.no\/A k)->w'.heap[k]?=w.heap[k]?:=fun k hk hr=>g.keep k hk (Or.inl (by
  rcases hr with hr|hr
  ·exact(ha k).resolve_left hr
  ·exact hA k hr))
 have ne:∀{k:Nat}{x:Rl},R k=x->x≠.no->R k≠.no:=fun e hx=>by rw[e];exact hx
 refine⟨h.b.keep g.size (fun k hk hr=>e k hk ?_) (fun _ _=>rfl) (fun k hk=>h.b.top k (aA g.size hk)) h.b.aR,h.h.keep g.size (fun k hk hr=>e k hk ?_) (fun _ _=>rfl),h.l.keep g.size (fun k hk hr=>e k hk ?_) (fun _ _=>rfl),h.k.keep g.size (fun k hk hr=>e k hk ?_) (fun _ _=>rfl)⟩
 ·rcases hr with hr|hr<;>exact Or.inl (ne hr (fun e=>by cases e))
 ·rcases hr with hr|hr
  ·exact Or.inl (ne hr (fun e=>by cases e))
  ·exact Or.inr hr
 ·rcases hr with hr|⟨j,hr⟩|hr|hr
  ·exact Or.inl (ne hr (fun e=>by cases e))
  ·exact Or.inl (ne hr (fun e=>by cases e))
  ·exact Or.inl (ne hr (fun e=>by cases e))
  ·exact Or.inr hr
 ·rcases hr with hr|⟨j,hr⟩|hr
  ·exact Or.inl (ne hr (fun e=>by cases e))
  ·exact Or.inl (ne hr (fun e=>by cases e))
  ·exact Or.inr hr
def uG(l:Rln)(q:List Rms)(a:Option Addr)(c:Nat):Rln:={ l with q:=q,qad:=a,qcap:=c }
def Wc(l:Rln)(t:List Ky)(a:Option Addr)(c:Nat):Rln:={ l with told:=t,tad:=a,tcap:=c }
theorem rS{k:Nat}(hk:k<Ls.length)(l:Rln)(j:Nat):gE (Ls.set k l) j=if j=k then l else gE Ls j:=by
 unfold gE;rw[aI,dV];by_cases e:k=j
 ·subst e;simp[hk]
 ·rw[if_neg e,if_neg (fun h=>e h.symm),aI]
theorem qT(q:List Rms)(a:Option Addr)(c:Nat):∀(Ls:List Rln)(k:Nat),k<Ls.length->iH (Ls.set k (uG (gE Ls k) q a c))=(iH Ls).set (k*4+2) (.slice a q.length c)
 |[],k,h=>by simp at h
 |x::l,0,_=>by simp[iH,pP,uG,gE]
 |x::l,k+1,h=>by
  have ih:=qT q a c l k (by simpa using h);have e:(k+1)*4+2=k*4+2+4:=by omega
  have hk:gE (x::l) (k+1)=gE l k:=by simp[gE]
  have c1:∀(y:Rln)(t:List Rln),iH (y::t)=pP y++iH t:=fun y t=>by simp[iH]
  rw[fE,hk,c1,c1,ih,e];simp[pP]
theorem uY(q:List Ky)(a:Option Addr)(c:Nat):∀(Ls:List Rln)(k:Nat),k<Ls.length->iH (Ls.set k (Wc (gE Ls k) q a c))=(iH Ls).set (k*4+3) (.slice a q.length c)
 |[],k,h=>by simp at h
 |x::l,0,_=>by simp[iH,pP,Wc,gE]
 |x::l,k+1,h=>by
  have ih:=uY q a c l k (by simpa using h);have e:(k+1)*4+3=k*4+3+4:=by omega
  have hk:gE (x::l) (k+1)=gE l k:=by simp[gE]
  have c1:∀(y:Rln)(t:List Rln),iH (y::t)=pP y++iH t:=fun y t=>by simp[iH]
  rw[fE,hk,c1,c1,ih,e];simp[pP]
section
variable {A:Nat->Prop}{C:Rc}{R:Nat->Rl}{w:World}{ads:Nat->Option Addr×Nat}{Xs:Nat->List Hm}{lv cv:Value}{Ls:List Rln}{cs:List Rcl}
theorem Rt.own(h:Rt A C R w ads Xs lv Ls cv cs)(R':Nat->Rl)(hr:∀k,R k≠.no->R' k=R k)(ht:∀k,w.heap.size<=k->R' k=.no)(ha:∀k,A k->R' k=.no):Rt A C R' w ads Xs lv Ls cv cs:=by
 have ne:∀{k:Nat}{x:Rl},R k=x->x≠.no->R' k=x:=fun e hx=>(hr _ (by rw[e];exact hx)).trans e;have rf:∀{ad:Option Addr}{l:List Value},qX R w ad l->qX R' w ad l:=fun h=>by
  rcases h with h|⟨b,off,h1,h0,h2,h3⟩
  ·exact Or.inl h
  ·exact Or.inr ⟨b,off,h1,ne h0 (fun e=>by cases e),h2,h3⟩
 have qr:∀{e:TypeId}{size:Nat}{v:Value}{n:Nat}{xs:List Value}{x:Rl},x≠.no->Qr w e size (fun k=>R k=x) v n xs->Qr w e size (fun k=>R' k=x) v n xs:=fun hx h=>h.kept fun g _ hR=>⟨rfl,ne hR hx⟩;obtain⟨cur,h1,h2⟩:=h.b.h;exact⟨⟨h.b.nb8,h.b.pos,h.b.t,ne h.b.rT (fun e=>by cases e),⟨cur,h1,h2⟩,ne h.b.rH (fun e=>by cases e),ht,ha,h.b.aL⟩,⟨fun b hb=>rf (h.h.row b hb),h.h.fi⟩,⟨qr (fun e=>by cases e) h.l.lk,fun j hj=>qr (fun e=>by cases e) (h.l.qu j hj),h.l.ms,fun l hl=>rf (h.l.td l hl)⟩,⟨qr (fun e=>by cases e) h.k.cl,fun j hj=>qr (fun e=>by cases e) (h.k.bx j hj),h.k.be⟩⟩
theorem Rt.wlink(h:Rt A C R w ads Xs lv Ls cv cs){k:Nat}(hk:k<Ls.length)(l':Rln)(j:Nat)(u:Value)(hj:iH (Ls.set k l')=(iH Ls).set (k*4+j) u)(hq:Qr w 152 5 (fun i=>R i=.qu k 0) (.slice l'.qad l'.q.length l'.qcap) l'.q.length (l'.q.flatMap iB))(hms:∀x∈l'.q,sF A w x)(htd:qX R w l'.tad (hG l'.told)){g off lc:Nat}(hlv:lv=.slice (some ⟨g,off,none⟩) Ls.length lc):Rt A C R (w.setCell ⟨g,off+(k*4+j),none⟩ u) ads Xs lv (Ls.set k l') cv cs/\Fr R R w (w.setCell ⟨g,off+(k*4+j),none⟩ u):=by
 have hg:R g=.lm/\g<w.heap.size:=h.l.lk.own g (by rw[hlv];rfl);have hs:w.heap.size<=(w.setCell ⟨g,off+(k*4+j),none⟩ u).heap.size:=by rw[gY];exact lZ
 have ke:∀i,R i≠.lm->(w.setCell ⟨g,off+(k*4+j),none⟩ u).heap[i]?=w.heap[i]?:=fun i hi=>Below.heap_setCell w _ u i (fun e=>hi (by have e:i=g:=e;rw[e];exact hg.1));have ne:∀{i:Nat}{x:Rl},R i=x->x≠.lm->R i≠.lm:=fun e hx=>by rw[e];exact hx
 have kA:∀i,A i->R i≠.lm:=fun i hi=>ne (h.b.aR i hi) (fun e=>by cases e);refine⟨⟨h.b.keep hs (fun i _ hr=>ke i ?_) (fun _ _=>rfl) (fun i hi=>h.b.top i (aA hs hi)) h.b.aR,h.h.keep hs (fun i _ hr=>ke i ?_) (fun _ _=>rfl),⟨?_,fun i hi=>?_,fun l hl x hx=>?_,fun l hl=>?_⟩,h.k.keep hs (fun i _ hr=>ke i ?_) (fun _ _=>rfl)⟩,⟨rfl,rfl,rfl,hs,fun i _ hr=>ke i ?_,fun _ _=>rfl⟩⟩
 ·rcases hr with hr|hr<;>exact ne hr (fun e=>by cases e)
 ·rcases hr with hr|hr
  ·exact ne hr (fun e=>by cases e)
  ·exact kA i hr
 ·rw[hj,bR,hlv];have:=h.l.lk;rw[hlv] at this;exact this.set _ u
 ·rw[bR] at hi;rw[rS hk];split
  ·rename_i e;subst e;exact hq.kept fun b _ hb=>⟨ke b (ne hb (fun e=>by cases e)),hb⟩
  ·exact(h.l.qu i hi).kept fun b _ hb=>⟨ke b (ne hb (fun e=>by cases e)),hb⟩
 ·refine sF.keep (w:=w) ?_ hs (fun i _ hi=>ke i (kA i hi));rcases fR hl with hl|hl
  ·exact h.l.ms l hl x hx
  ·subst hl;exact hms x hx
 ·refine qX.keep (R:=R) (w:=w) ?_ hs (fun i _ hi=>ke i (ne hi (fun e=>by cases e))) (fun _ _=>rfl);rcases fR hl with hl|hl
  ·exact h.l.td l hl
  ·subst hl;exact htd
 ·rcases hr with hr|⟨j,hr⟩|hr
  ·exact ne hr (fun e=>by cases e)
  ·exact ne hr (fun e=>by cases e)
  ·exact kA i hr
 ·rcases hr with hr|hr<;>exact ne hr (fun e=>by cases e)
theorem Rt.grownQ(h:Rt A C R w ads Xs lv Ls cv cs){k:Nat}(hk:k<Ls.length){w1:World}(hg:w.grownBy w1 (Value.ownBlock (.slice (gE Ls k).qad (gE Ls k).q.length (gE Ls k).qcap)))(hq:∀i,v'.ownBlock=some i->i<w1.heap.size)(hold:Qr w1 152 5 (fun i=>R i=.qu k 0) (.slice (gE Ls k).qad (gE Ls k).q.length (gE Ls k).qcap) (gE Ls k).q.length ((gE Ls k).q.flatMap iB))(ho:v'.ownBlock=Value.ownBlock (.slice (gE Ls k).qad (gE Ls k).q.length (gE Ls k).qcap)\/∃j,w.heap.size<=j/\v'.ownBlock=some j):Rt A C (fun i=>if v'.ownBlock=some i then .qu k 0 else R i) w1 ads Xs lv Ls cv cs/\Fr R (fun i=>if v'.ownBlock=some i then .qu k 0 else R i) w w1:=by
 have hown:=(h.l.qu k hk).own;have hs:=hg.size;have hsame:∀i,i<w.heap.size->(if v'.ownBlock=some i then Rl.qu k 0 else R i)=R i:=by
  intro i hi;split
  ·rename_i e;rcases ho with h1|⟨j,hj,h1⟩
   ·rw[h1] at e;exact(hown i e).1.symm
   ·rw[h1] at e;injection e with e;omega
  ·rfl
 have ke:∀i,i<w.heap.size->R i≠.qu k 0->w1.heap[i]?=w.heap[i]?:=fun i hi h2=>hg.block i hi (fun e=>h2 (hown i e.symm).1);have ne:∀{i:Nat}{x:Rl},R i=x->x≠.qu k 0->R i≠.qu k 0:=fun e hx=>by rw[e];exact hx
 have kA:∀i,A i->R i≠.qu k 0:=fun i hi=>ne (h.b.aR i hi) (fun e=>by cases e);have htop:∀i,w1.heap.size<=i->(if v'.ownBlock=some i then Rl.qu k 0 else R i)=.no:=by intro i hi;rw[if_neg (fun e=>by have:=hq i e;omega)];exact h.b.top i (aA hs hi)
 have haR:∀i,A i->(if v'.ownBlock=some i then Rl.qu k 0 else R i)=.no:=by intro i hi;rw[hsame i (h.b.aL i hi)];exact h.b.aR i hi
 refine⟨⟨h.b.keep hs (fun i hi hr=>ke i hi ?_) hsame htop haR,h.h.keep hs (fun i hi hr=>ke i hi ?_) hsame,⟨?_,fun j hj=>?_,fun l hl x hx=>?_,fun l hl=>?_⟩,h.k.keep hs (fun i hi hr=>ke i hi ?_) hsame⟩,⟨hg.os,hg.tape,hg.output,hs,fun i hi hr=>ke i hi ?_,hsame⟩⟩
 ·rcases hr with hr|hr<;>exact ne hr (fun e=>by cases e)
 ·rcases hr with hr|hr
  ·exact ne hr (fun e=>by cases e)
  ·exact kA i hr
 ·exact h.l.lk.kept fun b hb hR=>⟨ke b hb (ne hR (fun e=>by cases e)),(hsame b hb).trans hR⟩
 ·by_cases e:j=k
  ·subst e;have lt:∀i,Value.ownBlock (.slice (gE Ls j).qad (gE Ls j).q.length (gE Ls j).qcap)=some i->i<w.heap.size:=fun i hi=>(hown i hi).2;refine⟨hold.1,?_⟩;rcases hold.2 with h2|⟨g,off,cap,cur,hv,hR,hh,r⟩
   ·exact Or.inl h2
   ·exact Or.inr ⟨g,off,cap,cur,hv,(hsame g (lt g (by rw[hv];rfl))).trans hR,hh,r⟩
  ·refine(h.l.qu j hj).kept fun b hb hR=>⟨ke b hb (ne hR (fun e'=>?_)),(hsame b hb).trans hR⟩;injection e' with e' _;exact e e'
 ·exact(h.l.ms l hl x hx).keep hs (fun i hi ha=>ke i hi (kA i ha))
 ·exact(h.l.td l hl).keep hs (fun i hi ha=>ke i hi (ne ha (fun e=>by cases e))) hsame
 ·rcases hr with hr|⟨j,hr⟩|hr
  ·exact ne hr (fun e=>by cases e)
  ·exact ne hr (fun e=>by cases e)
  ·exact kA i hr
 ·rcases hr with hr|hr<;>exact ne hr (fun e=>by cases e)
theorem Rt.send(h:Rt A C R w ads Xs lv Ls cv cs){k:Nat}(hk:k<Ls.length)(x:Rms)(hx:sF A w x){w1:World}(hq:Qr w1 152 5 (fun i=>Value.ownBlock (.slice a' ((gE Ls k).q.length+1) c')=some i) (.slice a' ((gE Ls k).q.length+1) c') ((gE Ls k).q.length+1) ((gE Ls k).q.flatMap iB++iB x))(hg:w.grownBy w1 (Value.ownBlock (.slice (gE Ls k).qad (gE Ls k).q.length (gE Ls k).qcap)))(hold:Qr w1 152 5 (fun i=>R i=.qu k 0) (.slice (gE Ls k).qad (gE Ls k).q.length (gE Ls k).qcap) (gE Ls k).q.length ((gE Ls k).q.flatMap iB))(ho:Value.ownBlock (.slice a' ((gE Ls k).q.length+1) c')=Value.ownBlock (.slice (gE Ls k).qad (gE Ls k).q.length (gE Ls k).qcap)\/∃j,w.heap.size<=j/\Value.ownBlock (.slice a' ((gE Ls k).q.length+1) c')=some j){g off lc:Nat}(hlv:lv=.slice (some ⟨g,off,none⟩) Ls.length lc):∃R',Rt A C R' (w1.setCell ⟨g,off+(k*4+2),none⟩ (.slice a' ((gE Ls k).q.length+1) c')) ads Xs lv (Ls.set k (uG (gE Ls k) ((gE Ls k).q++[x]) a' c')) cv cs/\Fr R R' w (w1.setCell ⟨g,off+(k*4+2),none⟩ (.slice a' ((gE Ls k).q.length+1) c')):=by
 obtain⟨h1,f1⟩:=h.grownQ hk hg (fun i hi=>(hq.own i hi).2) hold ho;have hA:∀i,i<w.heap.size->A i->w1.heap[i]?=w.heap[i]?:=fun i hi ha=>f1.keep i hi (Or.inl (h.b.aR i ha));have hl:((gE Ls k).q++[x]).length=(gE Ls k).q.length+1:=by simp
 obtain⟨h2,f2⟩:=h1.wlink hk (uG (gE Ls k) ((gE Ls k).q++[x]) a' c') 2 (.slice a' ((gE Ls k).q.length+1) c') (by rw[qT _ _ _ Ls k hk,hl]) (by
   simp only[uG];rw[hl,List.flatMap_append];simp only[cQ,List.flatMap_nil,aZ];exact hq.kept fun b _ hb=>⟨rfl,if_pos hb⟩) (fun y hy=>by
   simp only[uG] at hy;rcases aE.1 hy with hy|hy
   ·exact h1.l.ms _ (kG hk) y hy
   ·rw[aM.1 hy];exact hx.keep hg.size hA) (h1.l.td (gE Ls k) (kG hk)) hlv
 exact⟨_,h2,f1.trans f2⟩
theorem Rt.tell{R0:Nat->Rl}(F:Fr R0 R w0 w)(h:Rt A C R w ads Xs lv Ls cv cs){k:Nat}(hk:k<Ls.length)(K:List Ky)(ho:Qr w 133 2 (fun i=>w0.heap.size<=i/\R i=.no) (.slice ta K.length tc) K.length (hG K))(hA0:∀k,A k->k<w0.heap.size){g off lc:Nat}(hlv:lv=.slice (some ⟨g,off,none⟩) Ls.length lc):∃R',Rt A C R' (w.setCell ⟨g,off+(k*4+3),none⟩ (.slice ta K.length tc)) ads Xs lv (Ls.set k (Wc (gE Ls k) K ta tc)) cv cs/\Fr R0 R' w0 (w.setCell ⟨g,off+(k*4+3),none⟩ (.slice ta K.length tc)):=by
 have own:=ho.own;have h1:=h.own (fun i=>if Value.ownBlock (.slice ta K.length tc)=some i then .fx else R i) (fun i hi=>if_neg (fun e=>hi (own i e).1.2)) (fun i hi=>by
  rw[if_neg (fun e=>by have:=(own i e).2;omega)];exact h.b.top i hi) (fun i hi=>by
  rw[if_neg (fun e=>by have:=(own i e).1.1;have:=hA0 i hi;omega)];exact h.b.aR i hi)
 obtain⟨h2,f2⟩:=h1.wlink hk (Wc (gE Ls k) K ta tc) 3 (.slice ta K.length tc) (uY _ _ _ Ls k hk) (h1.l.qu k hk) (h1.l.ms (gE Ls k) (kG hk)) (by
  have hq:Qr w 133 2 (fun i=>Value.ownBlock (.slice ta K.length tc)=some i) (.slice ta K.length tc) K.length (hG K):=by
   refine⟨ho.1,?_⟩;rcases ho.2 with h2|⟨g,off,cap,cur,hv,_,rr⟩
   ·exact Or.inl h2
   ·exact Or.inr ⟨g,off,cap,cur,hv,by rw[hv];rfl,rr⟩
  exact qX.of_qr hq fun i hi=>if_pos hi) hlv
 have f1:Fr R0 (fun i=>if Value.ownBlock (.slice ta K.length tc)=some i then .fx else R i) w0 w:=⟨F.os,F.tape,F.output,F.size,F.keep,fun i hi=>by rw[if_neg (fun e=>by have:=(own i e).1.1;omega)];exact F.same i hi⟩;exact⟨_,h2,f1.trans f2⟩
theorem Rt.turnH{R0:Nat->Rl}(F:Fr R0 R w0 w)(h:Rt A C R w ads Xs lv Ls cv cs){b:Nat}(hb:b<C.nb)(X:List Hm)(ho:w.ownsRow w0.heap.size 135 4 (.slice va X.length vk) X.length (hH X))(hno:∀i,Value.ownBlock (.slice va X.length vk)=some i->R i=.no)(hA0:∀k,A k->k<w0.heap.size)(hX:∀x∈X,FiO A w x.2.1 x.1.f):∃R',Rt A C R' (w.setCell ⟨C.HB,b,none⟩ (.slice va X.length vk)) (fun i=>if i=b then(va,vk) else ads i) (fun i=>if i=b then X else Xs i) lv Ls cv cs/\Fr R0 R' w0 (w.setCell ⟨C.HB,b,none⟩ (.slice va X.length vk)):=by
 have low:=iC ho;have h1:=h.own (fun i=>if Value.ownBlock (.slice va X.length vk)=some i then .fx else R i) (fun i hi=>if_neg (fun e=>hi (hno i e))) (fun i hi=>by
  rw[if_neg (fun e=>by have:=Sg ho e;omega)];exact h.b.top i hi) (fun i hi=>by
  rw[if_neg (fun e=>by have:=low i e;have:=hA0 i hi;omega)];exact h.b.aR i hi)
 have f1:Fr R0 (fun i=>if Value.ownBlock (.slice va X.length vk)=some i then .fx else R i) w0 w:=⟨F.os,F.tape,F.output,F.size,F.keep,fun i hi=>by rw[if_neg (fun e=>by have:=low i e;omega)];exact F.same i hi⟩;have hrow:=qX.of_owns (R:=fun i=>if Value.ownBlock (.slice va X.length vk)=some i then .fx else R i) ho fun i hi=>if_pos hi;generalize(fun i=>if Value.ownBlock (.slice va X.length vk)=some i then .fx else R i:Nat->Rl)=R1 at *;have hs:w.heap.size<=(w.setCell ⟨C.HB,b,none⟩ (.slice va X.length vk)).heap.size:=by rw[gY];exact lZ
 have ke:∀i,R1 i≠.hm 0->(w.setCell ⟨C.HB,b,none⟩ (.slice va X.length vk)).heap[i]?=w.heap[i]?:=fun i hi=>Below.heap_setCell w _ _ i (fun e=>hi (by have e:i=C.HB:=e;rw[e];exact h1.b.rH));have ne:∀{i:Nat}{x:Rl},R1 i=x->x≠.hm 0->R1 i≠.hm 0:=fun e hx=>by rw[e];exact hx
 have kA:∀i,A i->R1 i≠.hm 0:=fun i hi=>ne (h1.b.aR i hi) (fun e=>by cases e);obtain⟨cur,c1,c2⟩:=h1.b.h;refine⟨R1,⟨⟨h1.b.nb8,h1.b.pos,(ke _ (ne h1.b.rT (fun e=>by cases e))).trans h1.b.t,h1.b.rT,⟨cur.setIfInBounds b (.slice va X.length vk),heap_setCell_same _ _ _ _ _ _ c1,fun i hi=>?_⟩,h1.b.rH,fun i hi=>h1.b.top i (aA hs hi),h1.b.aR,fun i hi=>aF (h1.b.aL i hi) hs⟩,⟨fun i hi=>?_,fun i hi x hx=>?_⟩,h1.l.keep hs (fun i _ hr=>ke i ?_) (fun _ _=>rfl),h1.k.keep hs (fun i _ hr=>ke i ?_) (fun _ _=>rfl)⟩,f1.trans ⟨rfl,rfl,rfl,hs,fun i _ hr=>ke i ?_,fun _ _=>rfl⟩⟩
 ·have hsz:b<cur.size:=(bL.1 (c2 b hb)).1;rw[fM];by_cases e:b=i
  ·subst e;simp[hsz]
  ·rw[if_neg e,c2 i hi];simp only[if_neg (fun h=>e (Eq.symm h):¬i=b)]
 ·by_cases e:i=b
  ·simp only[e,if_true];exact hrow.keep hs (fun i _ hi=>ke i (ne hi (fun e=>by cases e))) (fun _ _=>rfl)
  ·simp only[if_neg e];exact(h1.h.row i hi).keep hs (fun i _ hi=>ke i (ne hi (fun e=>by cases e))) (fun _ _=>rfl)
 ·by_cases e:i=b
  ·simp only[e,if_true] at hx;exact(hX x hx).keep hs (fun i _ hi=>ke i (kA i hi))
  ·simp only[if_neg e] at hx;exact(h1.h.fi i hi x hx).keep hs (fun i _ hi=>ke i (kA i hi))
 ·rcases hr with hr|⟨j,hr⟩|hr|hr
  ·exact ne hr (fun e=>by cases e)
  ·exact ne hr (fun e=>by cases e)
  ·exact ne hr (fun e=>by cases e)
  ·exact kA i hr
 ·rcases hr with hr|⟨j,hr⟩|hr
  ·exact ne hr (fun e=>by cases e)
  ·exact ne hr (fun e=>by cases e)
  ·exact kA i hr
 ·rcases hr with hr|hr<;>exact ne hr (fun e=>by cases e)
end
structure Al where
 fr:Nat
 to:Nat
 q:List (Ms (List Wnt) (List Atr))
 told:List Ky
def Rln.av(l:Rln):Al:=⟨l.fr,l.to,l.q.map Rms.ms,l.told⟩
def aAQ(x:Hm):Rms:=⟨.sub x.1.key x.1.f,x.2.1,x.2.2⟩
def aAM(k:Ky):Rms:=⟨.uns k,none,0⟩
def mQ(n:Int)(X:List Hm)(old:List Ky)(q:Nat):List Hm:=(jL n X q).filter fun x=>!(old.any fun k=>k==x.1.key)
def oS(now old:List Ky)(q:Nat):List Ky:=(old.take q).filter fun k=>!(now.any fun x=>x==k)
def kH(X:List Hm):List Ky:=X.map fun x=>x.1.key
theorem Ji(n:Int)(X:List Hm)(old:List Ky):mQ n X old 0=[]:=by simp[mQ,jL]
theorem wP(n:Int)(X:List Hm):jL n X 0=[]:=by simp[jL]
theorem Gw(now old:List Ky):oS now old 0=[]:=by simp[oS]
theorem Sp{n:Int}{old:List Ky}{q:Nat}(h:q<X.length)(hc:(hat X q).1.fr=n\/oY X (hat X q).1 n=true):mQ n X old (q+1)=mQ n X old q/\jL n X (q+1)=jL n X q:=by have e:=rK n X q h;rw[if_pos hc,aZ] at e;exact⟨by unfold mQ;rw[e],e⟩
theorem Oj{n:Int}{old:List Ky}{q:Nat}(h:q<X.length)(h1:(hat X q).1.fr≠n)(h2:oY X (hat X q).1 n=false)(h3:(old.any fun k=>k==(hat X q).1.key)=true):mQ n X old (q+1)=mQ n X old q/\jL n X (q+1)=jL n X q++[hat X q]:=by have e:=rK n X q h;rw[if_neg (by simp[h1,h2])] at e;refine⟨?_,e⟩;unfold mQ;rw[e,dT];simp[h3]
theorem Ok{n:Int}{old:List Ky}{q:Nat}(h:q<X.length)(h1:(hat X q).1.fr≠n)(h2:oY X (hat X q).1 n=false)(h3:(old.any fun k=>k==(hat X q).1.key)=false):mQ n X old (q+1)=mQ n X old q++[hat X q]/\jL n X (q+1)=jL n X q++[hat X q]:=by have e:=rK n X q h;rw[if_neg (by simp[h1,h2])] at e;refine⟨?_,e⟩;unfold mQ;rw[e,dT];congr 1;simp only[eW,h3,Bool.not_false,if_true,List.filter_nil]
theorem Gy(now old:List Ky){q:Nat}(h:q<old.length):oS now old (q+1)=oS now old q++(if(now.any fun x=>x==eat old q)=true then[] else[eat old q]):=by unfold oS;rw[sC h,dT];congr 1;cases hc:now.any fun x=>x==eat old q<;>simp[hc]
theorem Cc(n:Int)(X:List Hm)(old:List Ky)(q:Nat):(mQ n X old q).length<=X.length:=by unfold mQ jL;exact aA (aX _ _) (aA (aX _ _) (dK q X))
theorem yF(n:Int)(X:List Hm)(q:Nat):(jL n X q).length<=X.length:=by unfold jL;exact aA (aX _ _) (dK q X)
theorem Kb(now old:List Ky)(q:Nat):(oS now old q).length<=old.length:=by unfold oS;exact aA (aX _ _) (dK q old)
def chA(b:Nat)(X:List Hm)(l:Al):Al:=
 if l.fr=b then⟨l.fr,l.to,l.q++((mQ l.to X l.told X.length).map fun x=>Ms.sub x.1.key x.1.f)++((oS (kH (mP l.to X)) l.told l.told.length).map fun k=>Ms.uns k),kH (mP l.to X)⟩ else l
def rD(l:List Hw):List Ky:=l.map fun h=>h.key
theorem Xy{b:Nat}{l:Al}(hb:l.fr=b){old:List Hw}(ho:l.told=rD (told cov old l.to)):chA b X l=⟨l.fr,l.to,l.q++chg cov old (X.map (·.1)) l.to,rD (told cov (X.map (·.1)) l.to)⟩:=by
 have e1:kH (mP l.to X)=rD (told cov (X.map (·.1)) l.to):=by unfold kH rD;rw[<-yG,bV];rfl
 have e2:((mQ l.to X l.told X.length).map fun x=>(Ms.sub x.1.key x.1.f:Ms (List Wnt) (List Atr)))=rL (newT cov old (X.map (·.1)) l.to):=by unfold mQ rL newT;rw[qN,ho,<-yG,List.filter_map,bV];unfold rD;congr 1;refine List.filter_congr fun x _=>?_;simp only[eQ,Ih]
 have e3:((oS (kH (mP l.to X)) l.told l.told.length).map fun k=>(Ms.uns k:Ms (List Wnt) (List Atr)))=qM (goneT cov old (X.map (·.1)) l.to):=by
  unfold oS qM goneT;rw[bB,e1,ho];unfold rD;rw[List.filter_map,bV];have:∀L:List Hw,L.filter ((fun k=>!(((told cov (X.map (·.1)) l.to).map fun h=>h.key).any fun x=>x==k))∘fun h=>h.key)=L.filter fun h=>!(lJ (told cov (X.map (·.1)) l.to) h.key):=fun L=>List.filter_congr fun x _=>by simp only[eQ,Ih]
  rw[this];rfl
 unfold chA;rw[if_pos hb,e1,e2,<-e1,e3,e1];unfold chg;rw[aU]
def lks(T:Tc):List (Nat×Nat):=(List.range T.nb).flatMap fun a=>(nbs T.adj T.nb a T.nb).map fun b=>(a,b)
def jC(T:Tc)(s:Ts):List Al:=(lks T).map fun p=>⟨p.1,p.2,s.q p.1 p.2,rD (told cov (s.held p.1) p.2)⟩
theorem Dt{p:Nat×Nat}(h:p∈lks T):p.1<T.nb/\p.2<T.nb/\T.adj p.1 p.2=true:=by simp only[lks,List.mem_flatMap,aC,eF] at h;obtain⟨a,ha,b,hb,rfl⟩:=h;obtain⟨_,h2,h3⟩:=kV.1 hb;exact⟨ha,h2,h3⟩
theorem Jn(T:Tc)(s:Ts)(b:Nat)(X:List Hm):(jC T s).map (chA b X)=jC T (s.turn cov T.adj b (X.map (·.1))):=by
 unfold jC;rw[bV];refine cC fun p hp=>?_;obtain⟨_,_,hadj⟩:=Dt hp;simp only[eQ];by_cases hb:p.1=b
 ·rw[Xy (l:=⟨p.1,p.2,s.q p.1 p.2,rD (told cov (s.held p.1) p.2)⟩) hb (old:=s.held p.1) rfl];subst hb;simp[TS.turn,hadj]
 ·unfold chA;rw[if_neg hb];simp[TS.turn,hb]
theorem Tryz.infoRMsg:(Tryz.prog.info? 152).map (fun i=>(i.zero,i.size,i.bytes))=some (some (.agg #[.int .i64 0,.int .i64 0,.int .i64 0,.slice none 0 0,.slice none 0 0]),5,72):=by kernel_rfl
variable {B:List Al}{x:Al}
section
variable {A:Nat->Prop}{C:Rc}{R:Nat->Rl}{w:World}{ads:Nat->Option Addr×Nat}{Xs:Nat->List Hm}{lv cv:Value}{Ls:List Rln}{cs:List Rcl}
theorem Rt.c0(h:Rt A C R w ads Xs lv Ls cv cs):w.cell? ⟨C.TB,0,none⟩=some (.slice (some ⟨C.HB,0,none⟩) C.nb C.hcap):=by rw[cZ h.b.t];rfl
theorem Rt.c1(h:Rt A C R w ads Xs lv Ls cv cs):w.cell? ⟨C.TB,1,none⟩=some lv:=by rw[cZ h.b.t];rfl
theorem Rt.c2(h:Rt A C R w ads Xs lv Ls cv cs):w.cell? ⟨C.TB,2,none⟩=some cv:=by rw[cZ h.b.t];rfl
theorem Rt.tlt(h:Rt A C R w ads Xs lv Ls cv cs):C.TB<w.heap.size:=fZ h.b.t
theorem Rt.hlt(h:Rt A C R w ads Xs lv Ls cv cs):C.HB<w.heap.size:=by obtain⟨cur,h1,_⟩:=h.b.h;exact fZ h1
theorem Rt.hbc(h:Rt A C R w ads Xs lv Ls cv cs){b:Nat}(hb:b<C.nb):w.cell? ⟨C.HB,b,none⟩=some (.slice (ads b).1 (Xs b).length (ads b).2):=by obtain⟨cur,h1,h2⟩:=h.b.h;rw[cZ h1];exact h2 b hb
theorem Rt.hfz(h:Rt A C R w ads Xs lv Ls cv cs)(b:Nat):w.frozen? ⟨C.HB,b,none⟩=false:=by obtain⟨cur,h1,h2⟩:=h.b.h;exact vF h1 b
theorem Rt.lshape(h:Rt A C R w ads Xs lv Ls cv cs):∃la lc,lv=.slice la Ls.length lc:=h.l.lk.shape
theorem xH{L:List Rln}(h:L.map Rln.av=B){k:Nat}(hk:k<L.length):B[k]?=some (gE L k).av:=by rw[<-h,aO];unfold gE;rw[aI,aJ hk];rfl
def CSt(A:Nat->Prop)(C:Rc)(R0:Nat->Rl)(w0:World)(ads:Nat->Option Addr×Nat)(Xs:Nat->List Hm)(lv cv:Value)(cs:List Rcl)(Ls:List Rln)(k:Nat)(B:List Al)(v:Value)(K:List Ky)(wr:World):Prop:=∃R L,Rt A C R wr ads Xs lv L cv cs/\Fr R0 R w0 wr/\L.map Rln.av=B/\(∀j,k<=j->gE L j=gE Ls j)/\Qr wr 133 2 (fun i=>w0.heap.size<=i/\R i=.no) v K.length (hG K)
theorem CSt.gr{R0:Nat->Rl}{k:Nat}{v:Value}{K:List Ky}(h:CSt A C R0 w0 ads Xs lv cv cs Ls k B v K wr)(g:Gr wr w'):CSt A C R0 w0 ads Xs lv cv cs Ls k B v K w':=by obtain⟨R,L,h1,h2,h3,h4,h5⟩:=h;exact⟨R,L,h1.gr g,h2.trans (Fr.gr g),h3,h4,h5.kept fun i hi hP=>⟨g.block i hi,hP⟩⟩
theorem CSt.now{R0:Nat->Rl}{k:Nat}{v:Value}{K:List Ky}{y:Ky}(h:CSt A C R0 w0 ads Xs lv cv cs Ls k B v K wr)(hA0:∀k,A k->k<w0.heap.size)(g:wr.grownBy w' v.ownBlock)(hq:Qr w' 133 2 (fun i=>v'.ownBlock=some i) v' (K.length+1) (hG K++[.int .i64 y.1,.int .i64 y.2]))(ho:v'.ownBlock=v.ownBlock\/v'.ownBlock=some wr.heap.size):CSt A C R0 w0 ads Xs lv cv cs Ls k B v' (K++[y]) w':=by
 obtain⟨R,L,h1,h2,h3,h4,h5⟩:=h;have own:=h5.own;have f1:Fr (msk v.ownBlock (fun _=>.no)) (msk v.ownBlock (fun _=>.no)) wr w':=⟨g.os,g.tape,g.output,g.size,fun k hk hr=>g.block k hk (fun e=>(Zq hr).1 e.symm),fun _ _=>rfl⟩;refine⟨R,L,h1.apart f1 (fun k=>?_) (fun k hk=>?_),⟨g.os.trans h2.os,g.tape.trans h2.tape,g.output.trans h2.output,aA h2.size g.size,fun i hi hr=>(g.block i (aF hi h2.size) (fun e=>?_)).trans (h2.keep i hi hr),h2.same⟩,h3,h4,?_⟩
 ·by_cases e:v.ownBlock=some k
  ·exact Or.inl (own k e).1.2
  ·exact Or.inr (if_neg e)
 ·exact if_neg (fun e=>by have:=(own k e).1.1;have:=hA0 k hk;omega)
 ·have:=(own i e.symm).1.1;omega
 ·rw[aG,rX];refine hq.kept fun i _ hi=>⟨rfl,?_⟩;rcases ho with ho|ho
  ·exact(own i (ho▸hi)).1
  ·rw[ho] at hi;injection hi with hi;subst hi;exact⟨h2.size,h1.b.top _ lZ⟩
theorem tM{L:List Rln}{k:Nat}(l:Rln):(L.set k l).map Rln.av=(L.map Rln.av).set k l.av:=by rw[List.map_set]
theorem CSt.tell{R0:Nat->Rl}{k:Nat}{K:List Ky}(h:CSt A C R0 w0 ads Xs lv cv cs Ls (k+1) B (.slice ta K.length tc) K wr)(hA0:∀k,A k->k<w0.heap.size)(hL:B.length=Ls.length)(hk:k<Ls.length)(hx:B[k]?=some x){g off lc:Nat}(hlv:lv=.slice (some ⟨g,off,none⟩) Ls.length lc):CSt A C R0 w0 ads Xs lv cv cs Ls (k+1) (B.set k ⟨x.fr,x.to,x.q,K⟩) (.slice none 0 0) [] (wr.setCell ⟨g,off+(k*4+3),none⟩ (.slice ta K.length tc)):=by
 obtain⟨R,L,h1,h2,h3,h4,h5⟩:=h;have hl:L.length=Ls.length:=by rw[<-hL,<-h3,aB]
 obtain⟨R',k1,k2⟩:=Rt.tell h2 h1 (k:=k) (by omega) K h5 hA0 (by rw[hl];exact hlv);have hav:=xH h3 (k:=k) (by omega);rw[hx] at hav;injection hav with hav;refine⟨R',_,k1,k2,by rw[tM,h3,hav];rfl,fun j hj=>?_,Qr.nil _ _ _ _⟩;rw[rS (by omega),if_neg (by omega)];exact h4 j hj
theorem CSt.next{R0:Nat->Rl}{k:Nat}{v:Value}{K:List Ky}(h:CSt A C R0 w0 ads Xs lv cv cs Ls k B v K wr):CSt A C R0 w0 ads Xs lv cv cs Ls (k+1) B v K wr:=by obtain⟨R,L,h1,h2,h3,h4,h5⟩:=h;exact⟨R,L,h1,h2,h3,fun j hj=>h4 j (by omega),h5⟩
theorem CSt.send{R0 R:Nat->Rl}{k:Nat}{v:Value}{K:List Ky}{L:List Rln}(h1:Rt A C R wr ads Xs lv L cv cs)(h2:Fr R0 R w0 wr)(h3:L.map Rln.av=B)(h4:∀j,k+1<=j->gE L j=gE Ls j)(h5:Qr wr 133 2 (fun i=>w0.heap.size<=i/\R i=.no) v K.length (hG K))(hk:k<L.length)(x:Rms)(hx:sF A wr x){w1:World}(hq:Qr w1 152 5 (fun i=>Value.ownBlock (.slice a' ((gE L k).q.length+1) c')=some i) (.slice a' ((gE L k).q.length+1) c') ((gE L k).q.length+1) ((gE L k).q.flatMap iB++iB x))(hg:wr.grownBy w1 (Value.ownBlock (.slice (gE L k).qad (gE L k).q.length (gE L k).qcap)))(hold:Qr w1 152 5 (fun i=>R i=.qu k 0) (.slice (gE L k).qad (gE L k).q.length (gE L k).qcap) (gE L k).q.length ((gE L k).q.flatMap iB))(ho:Value.ownBlock (.slice a' ((gE L k).q.length+1) c')=Value.ownBlock (.slice (gE L k).qad (gE L k).q.length (gE L k).qcap)\/∃j,wr.heap.size<=j/\Value.ownBlock (.slice a' ((gE L k).q.length+1) c')=some j){g off lc n:Nat}(hlv:lv=.slice (some ⟨g,off,none⟩) n lc)(hn:n=L.length){y:Al}(hy:B[k]?=some y):CSt A C R0 w0 ads Xs lv cv cs Ls (k+1) (B.set k ⟨y.fr,y.to,y.q++[x.ms],y.told⟩) v K (w1.setCell ⟨g,off+(k*4+2),none⟩ (.slice a' ((gE L k).q.length+1) c')):=by
 subst hn;obtain⟨R',k1,k2⟩:=h1.send hk x hx hq hg hold ho hlv;have hav:=xH h3 hk;rw[hy] at hav;injection hav with hav;refine⟨R',_,k1,h2.trans k2,?_,fun j hj=>?_,h5.kept fun i hi hP=>⟨k2.keep i hi (Or.inl hP.2),hP.1,(k2.same i hi).trans hP.2⟩⟩
 ·rw[tM,h3,hav];simp[Rln.av,uG]
 ·rw[rS hk,if_neg (by omega)];exact h4 j hj
def bK(b:Nat)(X:List Hm)(B:List Al)(k:Nat):List Al:=(B.take k).map (chA b X)++B.drop k
theorem Yc(b:Nat)(X:List Hm)(B:List Al):bK b X B 0=B:=by simp[bK]
theorem aAF(b:Nat)(X:List Hm)(B:List Al):bK b X B B.length=B.map (chA b X):=by simp[bK]
theorem aAE(b:Nat)(X:List Hm)(B:List Al)(k:Nat):(bK b X B k).length=B.length:=by simp[bK];omega
theorem Yy{b:Nat}{k:Nat}(h:B[k]?=some x):(bK b X B k)[k]?=some x/\bK b X B (k+1)=(bK b X B k).set k (chA b X x):=by
 obtain⟨hk,rfl⟩:=bN.1 h;have hl:((B.take k).map (chA b X)).length=k:=by simp;omega
 have hd:B.drop k=B[k]::B.drop (k+1):=cU hk;unfold bK;refine⟨?_,?_⟩
 ·rw[bS (by omega),hl,Nat.sub_self,hd];rfl
 ·rw[fL _ _ (by omega),hl,Nat.sub_self,hd,List.set_cons_zero,aW hk];simp only[aS,bH,dI,aU,bD,bM]
theorem Yd{b:Nat}{k:Nat}(h:B[k]?=some x)(hx:x.fr≠b):bK b X B (k+1)=bK b X B k:=by obtain⟨h1,h2⟩:=Yy (b:=b) (X:=X) h;have:chA b X x=x:=if_neg hx;rw[h2,this];obtain⟨hk,e⟩:=bN.1 h1;rw[<-e,List.set_getElem_self]
end
theorem Sz(T:Tc):(lks T).Nodup:=by
 unfold lks;refine List.pairwise_flatMap.2 ⟨fun a _=>?_,?_⟩
 ·refine cB.2 ((Dj T.adj T.nb a T.nb).imp fun h e=>h ?_);injection e
 ·refine List.nodup_range.imp fun h x hx y hy e=>h ?_;obtain⟨_,_,rfl⟩:=aC.1 hx;obtain⟨_,_,rfl⟩:=aC.1 hy;injection e
theorem Zu{a b:Nat}(ha:a<T.nb)(hb:b<T.nb)(h:T.adj a b=true):(a,b)∈lks T:=by simp only[lks,List.mem_flatMap,aC,eF];exact⟨a,ha,b,kV.2 ⟨hb,hb,h⟩,rfl⟩
theorem Lz(T:Tc):(lks T).length<=T.nb*T.nb:=by
 unfold lks;rw[List.length_flatMap];have:∀l:List Nat,(l.map fun a=>((nbs T.adj T.nb a T.nb).map fun b=>(a,b)).length).sum<=l.length*T.nb:=by
  intro l
  induction l with
  |nil=>simp
  |cons x l ih=>
   (have:((nbs T.adj T.nb x T.nb).map fun b=>(x,b)).length<=T.nb:=by rw[aB];exact aA (aX _ _) (by simp));simp only[bH,List.sum_cons,bA,eB,Nat.one_mul];omega
 have h:=this (List.range T.nb);simpa using h
theorem mD(T:Tc)(s:Ts):(jC T s).length=(lks T).length:=by simp[jC]
theorem kR{s:Ts}{k:Nat}(h:(jC T s)[k]?=some x):(lks T)[k]?=some (x.fr,x.to)/\T.adj x.fr x.to=true/\x.fr<T.nb/\x.to<T.nb/\x.q=s.q x.fr x.to/\x.told=rD (told cov (s.held x.fr) x.to):=by
 unfold jC at h;rw[aO] at h;cases hp:(lks T)[k]? with
 |none=>rw[hp] at h;cases h
 |some p=>rw[hp] at h;injection h with h;subst h;have hm:=Dt (dD hp);exact⟨rfl,hm.2.2,hm.1,hm.2.1,rfl,rfl⟩
theorem Oo{s:Ts}{k a b:Nat}(h:(jC T s)[k]?=some x)(ha:x.fr=a)(hb:x.to=b):(jC T s).set k ⟨x.fr,x.to,x.q.tail,x.told⟩=jC T (s.pop a b):=by
 subst ha hb;obtain⟨h1,h2,h3,h4,h5,h6⟩:=kR h;apply eP;intro j;have hk:k<(jC T s).length:=(bN.1 h).1;rw[dV];by_cases e:k=j
 ·subst e;rw[if_pos rfl,if_pos hk];unfold jC;rw[aO,h1];simp[TS.pop,h5,h6]
 ·rw[if_neg e];unfold jC;rw[aO,aO];cases hp:(lks T)[j]? with
  |none=>rfl
  |some p=>
   have hne:¬(p.1=x.fr/\p.2=x.to):=fun⟨e1,e2⟩=>by
    have hpe:p=(x.fr,x.to):=Prod.ext e1 e2;obtain⟨hj,hj'⟩:=bN.1 hp;obtain⟨hk',hk''⟩:=bN.1 h1;have nd:=bZ.1 (Sz T);rcases eC k j with hlt|hlt|hlt
    ·exact nd k j hk' hj hlt (by rw[hj',hk'',hpe])
    ·exact e hlt
    ·exact nd j k hj hk' hlt (by rw[hj',hk'',hpe])
   simp[TS.pop,hne]
structure Rv(T:Tc)(Xs:Nat->List Hm)(Ls:List Rln)(s:Ts):Prop where
 held:∀b,b<T.nb->(Xs b).map (·.1)=s.held b
 lk:Ls.map Rln.av=jC T s
def pcR(c:Rcl):Pc (List Atr):=⟨c.num,c.at',c.lost,c.box.map (·.1)⟩
def Rw(A:Nat->Prop)(C:Rc)(T:Tc)(R:Nat->Rl)(w:World)(cs:List (Pc (List Atr)))(s:Ts):Prop:=∃ads Xs lv Ls cv rs,Rt A C R w ads Xs lv Ls cv rs/\C.nb=T.nb/\Rv T Xs Ls s/\rs.map pcR=cs
theorem Rw.gr{R:Nat->Rl}{cs:List (Pc (List Atr))}{s:Ts}(h:Rw A C T R w cs s)(g:Gr w w'):Rw A C T R w' cs s:=by obtain⟨ads,Xs,lv,Ls,cv,rs,h1,h2,h3,h4⟩:=h;exact⟨ads,Xs,lv,Ls,cv,rs,h1.gr g,h2,h3,h4⟩
theorem Rw.apart{R:Nat->Rl}{cs:List (Pc (List Atr))}{s:Ts}(h:Rw A C T R w cs s)(g:Fr r1 r1' w w')(ha:∀k,R k=.no\/r1 k=.no)(hA:∀k,A k->r1 k=.no):Rw A C T R w' cs s:=by obtain⟨ads,Xs,lv,Ls,cv,rs,h1,h2,h3,h4⟩:=h;exact⟨ads,Xs,lv,Ls,cv,rs,h1.apart g ha hA,h2,h3,h4⟩
theorem Rv.turn{Ls':List Rln}{s:Ts}(h:Rv T Xs Ls s)(b:Nat)(X:List Hm)(l':List Hw)(hl:X.map (·.1)=l')(hc:Ls'.map Rln.av=Ls.map fun l=>chA b X l.av):Rv T (fun i=>if i=b then X else Xs i) Ls' (s.turn cov T.adj b l'):=by
 refine⟨fun i hi=>?_,?_⟩
 ·by_cases e:i=b
  ·simp[TS.turn,e,hl]
  ·simp only[TS.turn,if_neg e];exact h.held i hi
 ·rw[hc,<-hl,<-Jn,<-h.lk,bV];rfl
theorem Rv.qlen{s:Ts}(h:Rv T Xs Ls s)(hm:Sm T s):∀l∈Ls,l.q.length<=549755813888/\l.told.length<=1048576:=by
 intro l hl;obtain⟨k,hk,rfl⟩:=bG hl;have e:(Ls.map Rln.av)[k]?=some (Ls[k]).av:=by rw[aO,aJ hk];rfl
 rw[h.lk] at e;obtain⟨_,_,h3,_,h5,h6⟩:=kR e;have q:=congrArg List.length h5;have t:=congrArg List.length h6;simp only[Rln.av,aB,rD] at q t;have hq:=hm.q Ls[k].fr Ls[k].to;have ht:(told cov (s.held Ls[k].fr) Ls[k].to).length<=(s.held Ls[k].fr).length:=aX _ _;have hh:=hm.h Ls[k].fr h3;simp only[Rln.av] at h5 h6;omega
theorem Rv.n64{s:Ts}(h:Rv T Xs Ls s)(hn:T.nb<=8):Ls.length<=64:=by have:=congrArg List.length h.lk;rw[aB,mD] at this;rw[this];exact aA (Lz T) (aA (eI hn hn) (by omega))
def RwP(A:Nat->Prop)(C:Rc)(T:Tc)(R:Nat->Rl)(code:Int)(cs':List (Pc (List Atr)))(s':Ts)(w:World)(e:Ending)(w':World):Prop:=e=.returned (.int .i64 code)/\∃R',Rw A C T R' w' cs' s'/\Fr R R' w w'
def isE(a b:Nat)(e:Ky):Bool:=e==((a:Int),(b:Int))||e==((b:Int),(a:Int))
def mlk(es:List Ky)(a b:Nat):List Ky:=es.filter (isE a b)
theorem xS:∀(es:List Ky)(part:Nat->Nat),tQ part es->∀a b:Nat,(part a=part b->mlk es a b=[])/\(mlk es a b).length<=1
 |[],_,_,_,_=>by simp[mlk]
 |e::es,part,h,a,b=>by
  obtain⟨h1,h2⟩:=h;obtain⟨A,B⟩:=xS es _ h2 a b;by_cases he:isE a b e=true
  ·have hab:part a≠part b/\jY part e.1.toNat e.2.toNat a=jY part e.1.toNat e.2.toNat b:=by
    simp only[isE,cN,beq_iff_eq] at he;rcases he with rfl|rfl
    ·exact⟨by simpa using h1,by simp only[cM];exact wE part a b⟩
    ·exact⟨fun h=>h1 (by simpa using h.symm),by simp only[cM];exact(wE part b a).symm⟩
   have e0:=A hab.2;unfold mlk at e0 ⊢;rw[eW,if_pos he,e0];exact⟨fun h=>absurd h hab.1,by simp⟩
  ·unfold mlk at A B ⊢;rw[eW,if_neg he];exact⟨fun h=>A (Gn h),B⟩
theorem Lt{a b:Nat}:mlk es a b≠[]↔oX es a b:=by
 unfold mlk oX;rw[Ne,fF];simp only[isE,cN,beq_iff_eq];constructor
 ·intro h;refine cO fun hn=>h fun e he hc=>hn ?_;rcases hc with rfl|rfl
  ·exact Or.inl he
  ·exact Or.inr he
 ·rintro(h|h) hc
  ·exact hc _ h (Or.inl rfl)
  ·exact hc _ h (Or.inr rfl)
theorem wV{α β:Type}(p:α->Bool)(f:α->β):∀l:List α,(l.filter p).map f=l.flatMap fun x=>if p x=true then[f x] else[]
 |[]=>rfl
 |x::l=>by rw[eW,cQ,<-wV p f l];cases h:p x<;>simp
def lkE(es:List Ky)(a b:Nat):List (Nat×Nat):=(mlk es a b).map fun _=>(a,b)
def lkR(es:List Ky)(a n:Nat):List (Nat×Nat):=(List.range n).flatMap fun b=>lkE es a b
def lkA(es:List Ky)(nb n:Nat):List (Nat×Nat):=(List.range n).flatMap fun a=>lkR es a nb
theorem Gi(es:List Ky)(nb n:Nat):lkA es nb (n+1)=lkA es nb n++lkR es n nb:=by simp[lkA,List.range_succ]
theorem Gh(es:List Ky)(a n:Nat):lkR es a (n+1)=lkR es a n++lkE es a n:=by simp[lkR,List.range_succ]
theorem Xk(hg:tQ (fun b=>b) es)(a b:Nat):(lkE es a b).length<=1:=by unfold lkE;rw[aB];exact(xS es _ hg a b).2
theorem Du{es:List Ky}(hg:tQ (fun b=>b) es)(a:Nat):∀n,(lkR es a n).length<=n
 |0=>by simp[lkR]
 |n+1=>by rw[Gh,aG];have:=Du hg a n;have:=Xk hg a n;omega
theorem Ma{es:List Ky}(hg:tQ (fun b=>b) es)(nb:Nat):∀n,(lkA es nb n).length<=n*nb
 |0=>by simp[lkA]
 |n+1=>by rw[Gi,aG,eB];have:=Ma hg nb n;have:=Du hg n nb;omega
theorem Xl(hg:tQ (fun b=>b) es)(hE:∀a b,T.adj a b=true↔oX es a b):lkA es T.nb T.nb=lks T:=by
 unfold lkA lks;congr 1;funext a;unfold lkR nbs;rw[wV,List.flatMap_def,List.flatMap_def];congr 1;refine cC fun b hb=>?_;have hb:b<T.nb:=by simpa using hb
 have h1:=(xS es _ hg a b).2;unfold lkE;by_cases hab:T.adj a b=true
 ·rw[if_pos (by simp[hb,hab])];have hne:=Lt.2 ((hE a b).1 hab);cases hm:mlk es a b with
  |nil=>exact absurd hm hne
  |cons x l=>rw[hm] at h1;have:l=[]:=dP (by simp only[bA] at h1;omega);rw[this];rfl
 ·rw[if_neg (by simp[hab])];have:mlk es a b=[]:=cO fun h=>hab ((hE a b).2 (Lt.1 h));rw[this];rfl
theorem Ec{n:Int}(h:jD n es=true):tQ (fun b=>b) es/\∀e∈es,inR n.toNat e=true:=by simp only[jD,aP,decide_eq_true_eq] at h;have:=(yJ es (List.range n.toNat) (by simp) (fun x hx=>by simpa using hx)).1 h.2;rw[qB] at this;exact⟨this.2,this.1⟩
end Go.Proofs.YtecnfgikbmcgoabGreat
