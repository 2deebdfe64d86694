import Derived.Test.YtecnfgikbmcgoabGreatG2
import Derived.Test.YtecnfgikbmcgoabGreatG0
import Derived.Sort.Grow
import Derived.OpenShut
import Derived.ProofKit
import Derived.HandedShaped
import Derived.Deep.Slices
set_option maxHeartbeats 8000000
set_option maxRecDepth 100000
namespace Go.Proofs.YtecnfgikbmcgoabGreat
open Go.Proofs.Tryz
open Go.RowKit
variable {A Bk b2 base c d i id j last:Nat}{Fs:List FE}{H:Type}{P:Program}{a0:Act}{cs:Array Value}{ve vew vf vw x:Value}{w w' w0:World}
theorem fZ{k:Nat}{o:Obj}(h:w.heap[k]?=some o):k<w.heap.size:=by
 rcases cG k w.heap.size with h'|h'
 ·exact h'
 ·rw[dM (by omega)] at h;cases h
theorem jI{e:TypeId}{size:Nat}{v:Value}{n:Nat}{xs:List Value}{row:Option Nat}(h:w.ownsRow base e size v n xs)(hg:w.grownBy w' row)(hne:∀k,v.ownBlock=some k->row≠some k):w'.ownsRow base e size v n xs:=by
 obtain⟨h1,h2⟩:=h;refine⟨h1,?_⟩;rcases h2 with h2|⟨b,cap,cur,hv,hb,hh,r⟩
 ·exact Or.inl h2
 ·exact Or.inr ⟨b,cap,cur,hv,hb,gU hg hh (hne b (by rw[hv];rfl)),r⟩
theorem jJ{b1:Nat}{e1 e2:TypeId}{s1 s2:Nat}{v1 v2:Value}{n1 n2:Nat}{x1 x2:List Value}(h1:w.ownsRow b1 e1 s1 v1 n1 x1)(h2:w.ownsRow b2 e2 s2 v2 n2 x2)(hne:e2≠e1):∀k,v2.ownBlock=some k->v1.ownBlock≠some k:=by
 intro k hk;rcases h2.2 with⟨hv,_⟩|⟨b,cap,cur,hv,hb,hh,_⟩
 ·rw[hv] at hk;simp[Value.ownBlock] at hk
 ·rw[hv] at hk;have:b=k:=by simpa[Value.ownBlock] using hk
  subst this;exact jF h1 hh hne
theorem iY{k:Nat}{o:Obj}{p:Addr}(h:w.heap[k]?=some o)(hne:k≠p.block)(u:Value):(w.setCell p u).heap[k]?=some o:=by rw[Below.heap_setCell w p u k hne];exact h
theorem jX{e t:TypeId}{size:Nat}{v:Value}{n:Nat}{xs:List Value}{k:Nat}{fr:Nat×Nat}(h:w.ownsRow base e size v n xs)(hk:w.heap[k]?=some (.cells cs t fr))(hne:t≠e)(u:Value):(w.setCell ⟨k,j,none⟩ u).ownsRow base e size v n xs:=by
 have hn:=jF h hk hne;obtain⟨h1,h2⟩:=h;refine⟨h1,?_⟩;rcases h2 with h2|⟨b,cap,cur,hv,hb,hh,r⟩
 ·exact Or.inl h2
 ·refine Or.inr ⟨b,cap,cur,hv,hb,iY hh (fun e=>hn ?_) u,r⟩;rw[hv];simp[Value.ownBlock,e]
theorem gI{k:Nat}{t:TypeId}{fr:Nat×Nat}(h:w.heap[k]?=some (.cells cs t fr))(u:Value):(w.setCell ⟨k,j,none⟩ u).heap[k]?=some (.cells (cs.setIfInBounds j u) t fr):=by simp[World.setCell,Array.getElem?_modify,h]
theorem uO{e:TypeId}{size g n:Nat}{xs:List Value}(h:w.ownsRow base e size (.slice (some ⟨g,0,none⟩) n n) n xs):w.heap[g]?=some (.cells xs.toArray e (0,0)):=by
 rcases h.2 with⟨hv,_⟩|⟨q,cap,cur,hv,hb,hh,_,_,hcs,htake⟩
 ·cases hv
 ·simp only[Value.slice.injEq,dN,Addr.mk.injEq,and_true,true_and] at hv;obtain⟨rfl,rfl⟩:=hv;have e:cur.toList=xs:=by rw[<-htake,aV (by rw[dO,hcs];exact lZ)]
  rw[hh,<-e]
theorem gY(w:World)(p:Addr)(u:Value):(w.setCell p u).heap.size=w.heap.size:=by simp[World.setCell]
theorem gX(w:World)(o:Obj):(w.alloc o).heap.size=w.heap.size+1:=by simp
theorem gL{e:TypeId}{size n:Nat}{v:Value}{xs:List Value}(h:w.ownsRow base e size v n xs):∃a m c,v=.slice a m c:=by
 rcases h.2 with⟨hv,_⟩|⟨q,cap,cur,hv,_⟩
 ·exact⟨_,_,_,hv⟩
 ·exact⟨_,_,_,hv⟩
theorem gQ{e:TypeId}{size g n cap:Nat}{xs:List Value}(h:w.ownsRow base e size (.slice (some ⟨g,0,none⟩) n cap) n xs)(j:Nat)(hj:j<n*size):∃v,w.cell? ⟨g,j,none⟩=some v:=by
 have hl:j<xs.length:=by rw[h.1];exact hj
 exact⟨xs[j],by rw[aH h j hj,aJ hl]⟩
def fe(Fs:List FE)(k:Nat):FE:=Fs.getD k ⟨0,[],none,0⟩
theorem zX{k:Nat}(h:k<Fs.length):fe Fs k∈Fs:=by simp[fe,List.getD_eq_getElem?_getD,List.getElem?_eq_getElem h]
theorem zY{k:Nat}(h:k<Fs.length):Fs[k]?=some (fe Fs k):=by simp[fe,List.getD_eq_getElem?_getD,List.getElem?_eq_getElem h]
theorem aBB(hn:(Fs.map FE.g).Nodup)(hi:i<Fs.length)(hj:j<Fs.length)(h:i≠j):(fe Fs i).g≠(fe Fs j).g:=by
 intro he;have h1:(Fs.map FE.g)[i]?=some (fe Fs i).g:=by rw[aO,zY hi];rfl
 have h2:(Fs.map FE.g)[j]?=some (fe Fs j).g:=by rw[aO,zY hj];rfl
 rw[<-he,<-h1] at h2;have hl:i<(Fs.map FE.g).length:=by simpa using hi
 exact h ((List.getElem?_inj hl hn).mp h2.symm)
theorem Ex(l:List Wnt):(iN l).length=l.length*5:=by
 induction l with
 |nil=>rfl
 |cons x l ih=>simp[iN,Ey] at ih ⊢;omega
theorem gK(g:Gr w w'){k:Nat}{o:Obj}(hk:w.heap[k]?=some o):w'.heap[k]?=some o:=by rw[g.block k (fZ hk)];exact hk
theorem oL{wr:World}{g:Nat}{t:TypeId}(r:∃cs,wr.heap[g]?=some (.cells cs t (0,0)))(u:Value):∃cs,(wr.setCell ⟨g,i,none⟩ u).heap[g]?=some (.cells cs t (0,0)):=by obtain⟨cs,h⟩:=r;exact⟨_,gI h u⟩
def Si(wr:World)(g j:Nat)(a b c d e:Value):World:=((((wr.setCell ⟨g,j,none⟩ a).setCell ⟨g,j+1,none⟩ b).setCell ⟨g,j+1+1,none⟩ c).setCell ⟨g,j+1+1+1,none⟩ d).setCell ⟨g,j+1+1+1+1,none⟩ e
theorem gH{e:TypeId}{size n:Nat}{v:Value}{xs:List Value}(h:w.ownsRow base e size v n xs):∃a c,v=.slice a n c/\(0<n->∃b,a=some ⟨b,0,none⟩):=by
 rcases h.2 with⟨hv,hn⟩|⟨q,cap,cur,hv,_⟩
 ·subst hn;exact⟨_,_,hv,fun h=>absurd h (by omega)⟩
 ·exact⟨_,_,hv,fun _=>⟨q,rfl⟩⟩
theorem qS{e:TypeId}{size b n m:Nat}{xs:List Value}(h:w.ownsRow base e size (.slice (some ⟨b,0,none⟩) m c) n xs):b<w.heap.size:=by
 rcases h.2 with⟨hv,_⟩|⟨q,cap,cur,hv,_,hh,_⟩
 ·cases hv
 ·simp only[Value.slice.injEq,dN,Addr.mk.injEq,and_true] at hv;rw[hv.1];exact fZ hh
theorem fY(w:World)(o:Obj):(w.alloc o).heap[w.heap.size]?=some o:=by show(w.heap.push o)[w.heap.size]?=some o;simp
def Ut(w:World)(g:Nat)(a b c d e:Value):World:=((((w.setCell ⟨g,0,none⟩ a).setCell ⟨g,1,none⟩ b).setCell ⟨g,2,none⟩ c).setCell ⟨g,3,none⟩ d).setCell ⟨g,4,none⟩ e
theorem Us{g:Nat}{t:TypeId}{x0 x1 x2 x3 x4:Value}(h:w.heap[g]?=some (.cells #[x0,x1,x2,x3,x4] t (0,0)))(a b c d e:Value):(Ut w g a b c d e).heap[g]?=some (.cells #[a,b,c,d,e] t (0,0)):=gI (j:=4) (gI (j:=3) (gI (j:=2) (gI (j:=1) (gI (j:=0) h a) b) c) d) e
def ov5(wr:World)(g j:Nat)(a b c d e:Value):World:=(((((wr.setCell ⟨g,j,none⟩ a).setCell ⟨g,j+1,none⟩ b).setCell ⟨g,j+2,none⟩ c).setCell ⟨g,j+3,none⟩ d).setCell ⟨g,j+4,none⟩ e).drew
theorem Df(wr:World)(g j:Nat)(a b c d e:Value):ov5 wr g j a b c d e=(Si wr g j a b c d e).drew:=rfl
theorem gF(w:World)(o:Obj){k:Nat}(h:k<w.heap.size):(w.alloc o).heap[k]?=w.heap[k]?:=Below.heap_alloc w o k h
structure Kp(ts:List TypeId)(base:Nat)(w w':World):Prop where
 be:Below base w w'
 kp:∀(k:Nat)(cs:Array Value)(t:TypeId)(fr:Nat×Nat),w.heap[k]?=some (.cells cs t fr)->¬t∈ts->w'.heap[k]?=some (.cells cs t fr)
theorem Kp.refl(ts:List TypeId)(base:Nat)(w:World):Kp ts base w w:=⟨Below.refl _ _,fun _ _ _ _ h _=>h⟩
theorem Kp.trans{ts:List TypeId}{a b c:World}(h:Kp ts base a b)(k:Kp ts base b c):Kp ts base a c:=⟨Below.trans h.be k.be,fun i cs t fr hi ht=>k.kp i cs t fr (h.kp i cs t fr hi ht) ht⟩
theorem Kp.gr{ts:List TypeId}{a b:World}(g:Gr a b)(hb:base<=a.heap.size):Kp ts base a b:=⟨Below.mono g hb,fun _ _ _ _ hi _=>gK g hi⟩
theorem Kp.alloc{ts:List TypeId}{a b:World}(h:Kp ts base a b)(hb:base<=b.heap.size)(o:Obj):Kp ts base a (b.alloc o):=h.trans (Kp.gr ((Gr.refl b).alloc o) hb)
theorem iC{e:TypeId}{size:Nat}{v:Value}{n:Nat}{xs:List Value}(h:w.ownsRow base e size v n xs):∀k,v.ownBlock=some k->base<=k:=by
 intro k hk;rcases h.2 with⟨hv,_⟩|⟨q,cap,cur,hv,hq,_⟩
 ·rw[hv] at hk;simp[Value.ownBlock] at hk
 ·rw[hv] at hk;simp[Value.ownBlock] at hk;omega
theorem Kp.grown{ts:List TypeId}{a:World}{e:TypeId}{size:Nat}{v:Value}{n:Nat}{xs:List Value}(h:Kp ts base a w)(own:w.ownsRow base e size v n xs)(he:e∈ts)(hg:w.grownBy w' v.ownBlock)(hB:base<=w.heap.size):Kp ts base a w':=h.trans ⟨Below.grown (Below.refl _ _) hg hB (iC own),fun _ _ _ _ hk ht=>gU hg hk (jF own hk (fun hh=>ht (hh▸he)))⟩
theorem Kp.set{ts:List TypeId}{a:World}{k:Nat}{t:TypeId}{fr:Nat×Nat}(h:Kp ts base a w)(hk:w.heap[k]?=some (.cells cs t fr))(ht:t∈ts)(hb:base<=k)(u:Value):Kp ts base a (w.setCell ⟨k,j,none⟩ u):=h.trans ⟨Below.setCell (Below.refl _ _) (p:=⟨k,j,none⟩) hb u,fun i cs' t' fr' hi ht'=>iY hi (p:=⟨k,j,none⟩) (fun(he:i=k)=>by subst he;rw[hk] at hi;injection hi with hi;injection hi with _ hi;subst hi;exact ht' ht) u⟩
theorem Kp.owns{ts:List TypeId}{e:TypeId}{size:Nat}{v:Value}{n:Nat}{xs:List Value}(k:Kp ts base w w')(h:w.ownsRow b2 e size v n xs)(he:¬e∈ts):w'.ownsRow b2 e size v n xs:=by
 obtain⟨h1,h2⟩:=h;refine⟨h1,?_⟩;rcases h2 with h2|⟨b,cap,cur,hv,hb,hh,r⟩
 ·exact Or.inl h2
 ·exact Or.inr ⟨b,cap,cur,hv,hb,k.kp _ _ _ _ hh he,r⟩
theorem Kp.size{ts:List TypeId}{a b:World}(h:Kp ts base a b):a.heap.size<=b.heap.size:=h.be.size
def sI(w:World)(b:Nat):Prop:=∃cs t fr,(t=47\/t=68)/\w.heap[b]?=some (.cells cs t fr)
theorem sI.kp{ts:List TypeId}{b:Nat}(h:sI w b)(g:Kp ts base w w')(ht:¬47∈ts/\¬68∈ts):sI w' b:=by obtain⟨cs,t,fr,h1,h2⟩:=h;exact⟨cs,t,fr,h1,g.kp _ _ _ _ h2 (by rcases h1 with rfl|rfl;exact ht.1;exact ht.2)⟩
theorem sI.at{b:Nat}(h:sI w b)(hk:b<w.heap.size->w'.heap[b]?=w.heap[b]?):sI w' b:=by obtain⟨cs,t,fr,h1,h2⟩:=h;exact⟨cs,t,fr,h1,(hk (fZ h2)).trans h2⟩
def FiK(base:Nat)(w:World)(ad:Option Addr)(f:List Wnt):Prop:=∃b off,ad=some ⟨b,off,none⟩/\b<w.heap.size/\(b<base\/sI w b)/\iD w b off f
def EvK(base:Nat)(w:World)(ad:Option Addr)(f:List Atr):Prop:=∃b off,ad=some ⟨b,off,none⟩/\b<w.heap.size/\(b<base\/sI w b)/\iP w b off f
theorem Kp.cell{ts:List TypeId}{b:Nat}(g:Kp ts base w w')(ht:¬47∈ts/\¬68∈ts)(h:b<base\/sI w b):(∀o,w'.cell? ⟨b,o,none⟩=w.cell? ⟨b,o,none⟩)/\(b<base\/sI w' b):=by
 rcases h with h|h
 ·exact⟨fun o=>g.be.cell (p:=⟨b,o,none⟩) h,Or.inl h⟩
 ·refine⟨fun o=>?_,Or.inr (h.kp g ht)⟩;obtain⟨cs,t,fr,h1,h2⟩:=h;have h':=g.kp _ _ _ _ h2 (by rcases h1 with rfl|rfl;exact ht.1;exact ht.2);rw[cZ h',cZ h2]
theorem FiK.kp{ts:List TypeId}{ad:Option Addr}{f:List Wnt}(h:FiK base w ad f)(g:Kp ts base w w')(ht:¬47∈ts/\¬68∈ts):FiK base w' ad f:=by obtain⟨b,off,h1,hl,h2,h3⟩:=h;obtain⟨e,h2'⟩:=g.cell ht h2;refine⟨b,off,h1,aF hl g.size,h2',fun i hi=>?_⟩;obtain⟨c1,c2,c3,c4,c5⟩:=h3 i hi;rw[e,e,e,e,e];exact⟨c1,c2,c3,c4,c5⟩
theorem EvK.kp{ts:List TypeId}{ad:Option Addr}{f:List Atr}(h:EvK base w ad f)(g:Kp ts base w w')(ht:¬47∈ts/\¬68∈ts):EvK base w' ad f:=by obtain⟨b,off,h1,hl,h2,h3⟩:=h;obtain⟨e,h2'⟩:=g.cell ht h2;refine⟨b,off,h1,aF hl g.size,h2',fun i hi=>?_⟩;obtain⟨c1,c2,c3,c4⟩:=h3 i hi;rw[e,e,e,e];exact⟨c1,c2,c3,c4⟩
structure LnF(w:World)(base LB:Nat)(ve vew vf vw:Value)(Fs:List FE):Prop where
 lb:base<=LB
 le:base<=w.heap.size
 box:w.heap[LB]?=some (.cells #[ve,vew,vf,vw] 66 (0,0))
 ownf:w.ownsRow base 72 1 vf Fs.length (Fs.map FE.fc)
 ownw:w.ownsRow base 40 1 vw Fs.length (Fs.map FE.wc)
 outs:∀e∈Fs,base<=e.g/\w.heap[e.g]?=some (.cells (iN (nN e.f)).toArray 89 (0,0))
 args:∀e∈Fs,e.f≠[]/\FiK base w e.ad e.f/\(∀x∈e.f,Wnt.Wf x)
 nodup:(Fs.map FE.g).Nodup
def Jb:Atr:=⟨⟨#[115,112,97,114,101]⟩,0,0,⟨#[]⟩⟩
def nS(f:List Atr):List Atr:=f++List.replicate 8 Jb
theorem qF(f:List Atr):(nS f).length=f.length+8:=by simp[nS]
theorem xR{f:List Atr}(h:i<f.length):aat (nS f) i=aat f i:=by simp[aat,nS,List.getD_eq_getElem?_getD,List.getElem?_append_left h]
theorem Cb{f:List Atr}(h:¬i<f.length)(h2:i<f.length+8):aat (nS f) i=Jb:=by simp only[aat,nS,aI];rw[bS (by omega),fS,if_pos (by omega)];rfl
theorem Im(l:List Atr):(iK l).length=l.length*4:=by
 induction l with
 |nil=>rfl
 |cons x l ih=>simp[iK,In] at ih ⊢;omega
def set4(xs:List Value)(k:Nat)(a b c d:Value):List Value:=(((xs.set k a).set (k+1) b).set (k+1+1) c).set (k+1+1+1) d
theorem Li(xs:List Value)(k:Nat)(a b c d:Value)(h:k+4<=xs.length):(set4 xs k a b c d).take (k+4)=xs.take k++[a,b,c,d]:=by unfold set4;have h1:=take_set xs k a (by omega);have h2:=take_set (xs.set k a) (k+1) b (by simp;omega);have h3:=take_set ((xs.set k a).set (k+1) b) (k+1+1) c (by simp;omega);have h4:=take_set (((xs.set k a).set (k+1) b).set (k+1+1) c) (k+1+1+1) d (by simp;omega);rw[show k+4=k+1+1+1+1 by omega,h4,h3,h2,h1];simp
theorem sE(l:List Atr)(i:Nat)(h:i<l.length):iK (l.take (i+1))=iK (l.take i)++[.string (aat l i).a,.int .i64 (aat l i).k,.int .i64 (aat l i).n,.string (aat l i).s]:=by
 have e:aat l i=l[i]:=by simp[aat,List.getD_eq_getElem?_getD,List.getElem?_eq_getElem h]
 rw[aW h,Il,e]
theorem sR{e:TypeId}{g n cap:Nat}{xs:List Value}(h:w.ownsRow base e 4 (.slice (some ⟨g,0,none⟩) n cap) n xs)(k:Nat)(a b c d:Value):((((w.setCell ⟨g,k,none⟩ a).setCell ⟨g,k+1,none⟩ b).setCell ⟨g,k+1+1,none⟩ c).setCell ⟨g,k+1+1+1,none⟩ d).ownsRow base e 4 (.slice (some ⟨g,0,none⟩) n cap) n (set4 xs k a b c d):=(bI (bI (bI (bI h k a).1 (k+1) b).1 (k+1+1) c).1 (k+1+1+1) d).1
theorem xW{v:World}{g k:Nat}(hg:w.heap.size<=g)(h:Gr w v)(a b c d:Value):Gr w ((((v.setCell ⟨g,k,none⟩ a).setCell ⟨g,k+1,none⟩ b).setCell ⟨g,k+1+1,none⟩ c).setCell ⟨g,k+1+1+1,none⟩ d):=Below.setCell (Below.setCell (Below.setCell (Below.setCell h hg _) hg _) hg _) hg _
structure EE where
 g:Nat
 f:List Atr
 ad:Option Addr
 cap:Nat
def EE.fc(e:EE):Value:=.slice (some ⟨e.g,0,none⟩) (e.f.length+8) (e.f.length+8)
def EE.wc(e:EE):Value:=.slice e.ad e.f.length e.cap
def ee(Fs:List EE)(k:Nat):EE:=Fs.getD k ⟨0,[],none,0⟩
theorem Ab{Fs:List EE}{k:Nat}(h:k<Fs.length):ee Fs k∈Fs:=by simp[ee,List.getD_eq_getElem?_getD,List.getElem?_eq_getElem h]
theorem Ac{Fs:List EE}{k:Nat}(h:k<Fs.length):Fs[k]?=some (ee Fs k):=by simp[ee,List.getD_eq_getElem?_getD,List.getElem?_eq_getElem h]
theorem aBC{Fs:List EE}(hn:(Fs.map EE.g).Nodup)(hi:i<Fs.length)(hj:j<Fs.length)(h:i≠j):(ee Fs i).g≠(ee Fs j).g:=by
 intro he;have h1:(Fs.map EE.g)[i]?=some (ee Fs i).g:=by rw[aO,Ac hi];rfl
 have h2:(Fs.map EE.g)[j]?=some (ee Fs j).g:=by rw[aO,Ac hj];rfl
 rw[<-he,<-h1] at h2;have hl:i<(Fs.map EE.g).length:=by simpa using hi
 exact h ((List.getElem?_inj hl hn).mp h2.symm)
structure LnE(w:World)(base LB:Nat)(ve vew vf vw:Value)(Es:List EE):Prop where
 lb:base<=LB
 le:base<=w.heap.size
 box:w.heap[LB]?=some (.cells #[ve,vew,vf,vw] 66 (0,0))
 ownf:w.ownsRow base 77 1 ve Es.length (Es.map EE.fc)
 ownw:w.ownsRow base 41 1 vew Es.length (Es.map EE.wc)
 outs:∀e∈Es,base<=e.g/\w.heap[e.g]?=some (.cells (iK (nS e.f)).toArray 86 (0,0))
 args:∀e∈Es,e.f≠[]/\EvK base w e.ad e.f/\(∀x∈e.f,Atr.Wf x)
 nodup:(Es.map EE.g).Nodup
def tsF:List TypeId:=[66,72,40]
def tsE:List TypeId:=[66,77,41]
def tsS:List TypeId:=[66,86,89]
theorem LnF.kp{LB:Nat}{ve' vew':Value}{Es:List FE}(h:LnF w base LB ve vew vf vw Es)(k:Kp tsE base w w')(hb:w'.heap[LB]?=some (.cells #[ve',vew',vf,vw] 66 (0,0))):LnF w' base LB ve' vew' vf vw Es:=⟨h.lb,aA h.le k.size,hb,k.owns h.ownf (by decide),k.owns h.ownw (by decide),fun e he=>⟨(h.outs e he).1,k.kp _ _ _ _ (h.outs e he).2 (by decide)⟩,fun e he=>⟨(h.args e he).1,(h.args e he).2.1.kp k (by decide),(h.args e he).2.2⟩,h.nodup⟩
theorem LnF.gr{LB:Nat}(h:LnF w base LB ve vew vf vw Fs)(g:Gr w w'):LnF w' base LB ve vew vf vw Fs:=h.kp (Kp.gr g h.le) (gK g h.box)
section
variable {P:Program}{ops:Array Oper}{Q:Exit->Act->World->Prop}
theorem pT{a:Act}(h:d<a.tmps.size):(a.put (some d) x).eval (.tmp d)=x:=by simp[Act.put,Act.eval,Array.getD,h]
theorem iX{a:Act}{t:Nat}(h:d≠t):(a.put (some d) x).eval (.tmp t)=a.eval (.tmp t):=Act.eval_put (fun d' hd he=>by injection hd with hd;injection he with he;exact h (hd.trans he.symm))
theorem lM{l:Array Bool}(h:i<l.size)(b:Bool):(l.setIfInBounds i true).getD i b=true:=by simp[Array.getD,h]
theorem hU{l:Array Bool}(h:i≠j)(b:Bool):(l.setIfInBounds i true).getD j b=l.getD j b:=by simp only[Array.getD_eq_getD_getElem?];rw[eX h]
theorem lV{l:Array Bool}(h:i<l.size)(b c:Bool):l.getD i b=l.getD i c:=by simp[Array.getD,h]
theorem tS{l:Array Bool}(h:l.getD i true=false):i<l.size:=by
 rcases cG i l.size with h'|h'
 ·exact h'
 ·simp[Array.getD,Nat.not_lt.mpr h'] at h
theorem Fm(hm:P.follows .mixedOrders=true)(last:Nat)(hsz:ops.size=last+1)(dst:Nat->Nat)(hinj:∀i j,i<last->j<last->dst i=dst j->i=j)(hguard:∀(i:Nat)(o:Oper),ops[i]?=some o->o.guard=none)(hdag:∀(i:Nat)(o:Oper),ops[i]?=some o->∀e∈o.after,e.on<i)(hall:∀j,j<last->∃(k:Nat)(o:Oper),j<k/\k<=last/\ops[k]?=some o/\∃e∈o.after,Region.binds .any e=true/\e.on=j)(R:Nat->Value->World->Prop)(E:Act->Prop)(W:World->Prop)(Good:Nat->World->World->Prop)(hE:∀a i x,i<last->E a->E (a.put (some (dst i)) x))(hsize:∀a,E a->∀i,i<last->dst i<a.tmps.size)(hW:∀i w w',W w->Good i w w'->W w')(hR:∀i j x w w',i≠j->R j x w->Good i w w'->R j x w')(hfront:∀(i:Nat)(o:Oper)(a:Act)(w:World),ops[i]?=some o->i<last->E a->W w->(∀e∈o.after,Region.binds .any e=true->R e.on (a.eval (.tmp (dst e.on))) w)->∀K:Act->World->Prop,(∀x w',Good i w w'->R i x w'->K (a.put (some (dst i)) x) w')->o.wp P a w K Q)(hlast:∀(o:Oper)(a:Act)(w:World),ops[last]?=some o->E a->W w->(∀j,j<last->R j (a.eval (.tmp (dst j))) w)->∀K:Act->World->Prop,(∀a' w',Q .normal a' w'->K a' w')->o.wp P a w K Q)(h0:E a0)(hw0:W w0.drew):(Code.region id ops true).wp P Q a0 w0:=by
 refine wp_region_any hm ?_;have main:∀(fuel:Nat)(listed:Array Bool)(a:Act)(w:World),listed.size=ops.size->listed.toList.count false<=fuel ->((listed.getD last true=false/\E a/\W w/\(∀(j:Nat)(o:Oper),ops[j]?=some o->listed.getD j false=true->∀e∈o.after,Region.binds .any e=true->listed.getD e.on false=true)/\∀j,j<last->listed.getD j false=true->R j (a.eval (.tmp (dst j))) w)\/((∀i,i<ops.size->listed.getD i true=true)/\Q .normal a w)) ->wpAny P .any ops Q fuel listed a w:=by
  intro fuel
  induction fuel with
  |zero=>
   intro listed a w hs hc hI;have hz:∀i,i<ops.size->listed.getD i true=true:=by
    intro i hi;have h1:¬false∈listed.toList:=List.count_eq_zero.mp (by omega);(have h2:listed.getD i true=listed[i]'(by omega):=by simp[Array.getD,show i<listed.size by omega]);rw[h2];cases h3:listed[i]'(by omega)
    ·exact absurd (by rw[<-h3];simp) h1
    ·rfl
   rcases hI with⟨h1,_⟩|⟨_,h2⟩
   ·rw[hz last (by omega)] at h1;cases h1
   ·refine⟨?_,h2⟩;rw[fC];intro i hi;obtain⟨h3,o,ho,_⟩:=mem_ready.1 hi;rw[hz i (bL.1 ho).1] at h3;cases h3
  |succ fuel ih=>
   intro listed a w hs hc hI;constructor
   ·intro hr;rcases hI with⟨h1,_⟩|⟨_,h2⟩
    ·exfalso;have hleast:∀n,∀i,i<n->listed.getD i true=true:=by
      intro n
      induction n with
      |zero=>intro i hi;omega
      |succ n ihn=>
       intro i hi;by_cases hin:i<n
       ·exact ihn i hin
       ·(have hin:i=n:=by omega);subst hin;cases hf:listed.getD i true
        ·have hlt:=tS hf;have hm:i∈Region.ready .any ops listed:=mem_ready.2 ⟨hf,ops[i]'(by omega),bU (by omega),fun e he _=>by have hlt':=hdag i _ (bU (by omega)) e he;rw[lV (by omega) false true];exact ihn _ hlt'⟩;rw[hr] at hm;cases hm
        ·rfl
     rw[hleast (last+1) last (by omega)] at h1;cases h1
    ·exact h2
   ·intro i hi;obtain⟨h3,o,ho,hdep⟩:=mem_ready.1 hi;have hil:i<ops.size:=(bL.1 ho).1;rcases hI with⟨h1,hEa,hWw,hcl,hRs⟩|⟨h2,_⟩
    ·unfold wpOp;simp only[ho,Region.wanted,hguard i o ho,if_true];refine Or.inl ?_;have hcnt:(listed.setIfInBounds i true).toList.count false<=fuel:=by
      (have hl:i<listed.toList.length:=by simp;omega);rw[cR,List.count_set hl];have h4:listed.toList[i]=false:=by
       (have h2:listed.getD i true=listed[i]'(by omega):=by simp[Array.getD,show i<listed.size by omega]);rw[<-h3,h2];simp
      rw[h4,if_pos (by rfl),if_neg (by decide)];omega
     by_cases hil':i=last
     ·subst hil';have every:∀(d j:Nat),j+d=i->0<d->listed.getD j false=true:=by
       intro d
       induction d using Nat.strongRecOn with
       |ind d ihd=>
        intro j hj hd;obtain⟨k,ok,hjk,hki,hok,e,he,hb,hon⟩:=hall j (by omega);by_cases hkl:k=i
        ·subst hkl;rw[ho] at hok;injection hok with hok;subst hok;have:=hdep e he hb;rw[hon] at this;exact this
        ·have:=hcl k ok hok (ihd (i-k) (by omega) k (by omega) (by omega)) e he hb;rw[hon] at this;exact this
      refine hlast o a w ho hEa hWw (fun j hj=>hRs j hj (every (i-j) j (by omega) (by omega))) _ (fun a' w' hq=>ih _ _ _ (by simpa using hs) hcnt (Or.inr ⟨fun k hk=>?_,hq⟩));by_cases hki:i=k
      ·subst hki;exact lM (by omega) _
      ·rw[hU hki,lV (by omega) true false];exact every (i-k) k (by omega) (by omega)
     ·(have hil2:i<last:=by omega);refine hfront i o a w ho hil2 hEa hWw (fun e he hb=>hRs _ ?_ (hdep e he hb)) _ (fun x w' hg hr=>?_)
      ·have:=hdag i o ho e he;omega
      ·refine ih _ _ _ (by simpa using hs) hcnt (Or.inl ⟨by rw[hU hil'];exact h1,hE _ _ _ hil2 hEa,hW _ _ _ hWw hg,?_,fun j hj hl=>?_⟩)
       ·intro j oj hoj hl e he hb;by_cases hij:i=j
        ·subst hij;rw[ho] at hoj;injection hoj with hoj;subst hoj;have:=hdag i o ho e he;rw[hU (by omega)];exact hdep e he hb
        ·rw[hU hij] at hl;have:=hcl j oj hoj hl e he hb;by_cases hie:i=e.on
         ·rw[<-hie] at this;rw[lV (by omega) true false,this] at h3;cases h3
         ·rw[hU hie];exact this
       by_cases hij:i=j
       ·subst hij;rw[pT (hsize _ hEa _ hil2)];exact hr
       ·rw[hU hij] at hl;rw[iX (fun he=>hij (hinj _ _ hil2 hj he))];exact hR _ _ _ _ _ hij (hRs j hj hl) hg
    ·rw[h2 i hil] at h3;cases h3
 refine main _ _ _ _ (by simp) ?_ (Or.inl ⟨?_,h0,hw0,fun j o _ hl=>?_,fun j hj hl=>?_⟩)
 ·simp
 ·simp[Array.getD,hsz]
 ·simp[Array.getD] at hl
 ·simp[Array.getD] at hl
def pK(ops:Array Oper)(last:Nat):Bool:=ops.toList.length==last+1&&((List.range (last+1)).all fun i=>match ops.toList[i]? with
  |none=>false
  |some o=>o.guard.isNone&&o.after.toList.all (fun e=>Nat.blt e.on i)) &&
 (List.range last).all fun j=>(List.range (last+1)).any fun k=>match ops.toList[k]? with
  |none=>false
  |some o=>Nat.blt j k&&o.after.toList.any fun e=>Region.binds .any e&&Nat.beq e.on j
theorem oK(h:pK ops last=true):ops.size=last+1:=by simp only[pK,aP,beq_iff_eq,dO] at h;exact h.1.1
theorem nH(h:pK ops last=true){o:Oper}(ho:ops[i]?=some o):o.guard=none/\(∀e∈o.after,e.on<i):=by have hsz:=oK h;simp only[pK,aP,cJ,eF] at h;have h2:=h.1.2 i (by have:=(bL.1 ho).1;omega);rw[cA,ho] at h2;simp only[aP,cJ] at h2;exact⟨by simpa using h2.1,fun e he=>Nat.blt_eq.mp (h2.2 e (by simpa using he))⟩
theorem sO(h:pK ops last=true):∀j,j<last->∃(k:Nat)(o:Oper),j<k/\k<=last/\ops[k]?=some o/\∃e∈o.after,Region.binds .any e=true/\e.on=j:=by
 intro j hj;simp only[pK,aP,cJ,eF] at h;have h2:=h.2 j hj;rw[bT] at h2;obtain⟨k,hk,h3⟩:=h2;rw[cA] at h3;cases ho:ops[k]? with
 |none=>rw[ho] at h3;cases h3
 |some o=>rw[ho] at h3;simp only[aP,bT] at h3;obtain⟨h4,e,he,hb,hon⟩:=h3;exact⟨k,o,Nat.blt_eq.mp h4,by have:=eF.1 hk;omega,ho,e,by simpa using he,hb,Nat.eq_of_beq_eq_true hon⟩
theorem oO(hm:P.follows .mixedOrders=true)(last:Nat)(hs:pK ops last=true)(R:Nat->Value->World->Prop)(E:Act->Prop)(W:World->Prop)(Good:Nat->World->World->Prop)(hE:∀a i x,i<last->E a->E (a.put (some (c+i)) x))(hsize:∀a,E a->c+last<=a.tmps.size)(hW:∀i w w',W w->Good i w w'->W w')(hR:∀i j x w w',i≠j->R j x w->Good i w w'->R j x w')(hfront:∀(i:Nat)(o:Oper)(a:Act)(w:World),ops[i]?=some o->i<last->E a->W w->(∀e∈o.after,Region.binds .any e=true->R e.on (a.eval (.tmp (c+e.on))) w)->∀K:Act->World->Prop,(∀x w',Good i w w'->R i x w'->K (a.put (some (c+i)) x) w')->o.wp P a w K Q)(hlast:∀(o:Oper)(a:Act)(w:World),ops[last]?=some o->E a->W w->(∀j,j<last->R j (a.eval (.tmp (c+j))) w)->∀K:Act->World->Prop,(∀a' w',Q .normal a' w'->K a' w')->o.wp P a w K Q)(h0:E a0)(hw0:W w0.drew):(Code.region id ops true).wp P Q a0 w0:=by have hsz:=oK hs;exact Fm hm last hsz (fun i=>c+i) (fun i j _ _ h=>by omega) (fun i o ho=>(nH hs ho).1) (fun i o ho=>(nH hs ho).2) (sO hs) R E W Good hE (fun a ha i hi=>by have:=hsize a ha;omega) hW hR hfront hlast h0 hw0
end
def cI(x y:Int):Int:=Lib.compareInt x y
def cK(a b:Ky):Int:=if cI a.1 b.1=0 then cI a.2 b.2 else cI a.1 b.1
theorem aBD(x y:Int):cI x y=if x<y then -1 else if y<x then 1 else 0:=rfl
theorem Uq(a b:Ky):decide (cK a b<0)=klt a b:=by
 simp only[cK,aBD,klt];by_cases h1:a.1<b.1
 ·simp[h1]
 ·by_cases h2:b.1<a.1
  ·(have:¬a.1=b.1:=by omega);simp[h1,h2,this]
  ·(have:a.1=b.1:=by omega);by_cases h3:a.2<b.2
   ·simp[this,h3]
   ·by_cases h4:b.2<a.2
    ·simp[this,h3,h4]
    ·simp[this,h3,h4]
theorem Yl(x y:Int)(B:Nat)(w:World)(h0:w.cell? ⟨B,0,none⟩=some (.int .i64 x))(h1:w.cell? ⟨B,1,none⟩=some (.int .i64 y)):Calls prog 103 #[.slice (some ⟨B,0,none⟩) 2 2] w fun e w'=>e=.returned (.int .i64 (if x=0 then y else x))/\w'=w:=by
 go_enter func103,ntmps103;by_cases hx:x=0
 ·subst hx;have e:(if(0:Int)=0 then y else 0)=y:=if_pos rfl;rw[e];by_cases hy:y=0
  ·subst hy;go_wp2_with fail;refine wp_loop_rounds 3 ?_;rw[rounds_succ];go_wp2_with fail;rw[rounds_succ];go_wp2_with fail;rw[rounds_succ];go_wp2_with fail;go_ret;exact⟨rfl,rfl⟩
  ·(have hy':(y==0)=false:=by simpa using hy);go_wp2_with fail;refine wp_loop_rounds 2 ?_;rw[rounds_succ];go_wp2_with fail;rw[rounds_succ];go_wp2_with fail;go_ret;exact⟨rfl,rfl⟩
 ·have hx':(x==0)=false:=by simpa using hx
  have e:(if x=0 then y else x)=x:=if_neg hx;rw[e];go_wp2_with fail;refine wp_loop_rounds 1 ?_;rw[rounds_succ];go_wp2_with fail;go_ret;exact⟨rfl,rfl⟩
theorem evn(a:Act)(k:Nat):a.eval (.tmp k)=a.tmps[k]?.getD undef:=by simp[Act.eval]
def Gx(a b:World):Prop:=∃q os,b=Go.Sort.grow (a.drewN q) os
theorem Gx.refl(a:World):Gx a a:=⟨0,#[],by rw[Go.Sort.grow_empty];rfl⟩
theorem Gx.trans{a b c:World}(h:Gx a b)(k:Gx b c):Gx a c:=by obtain⟨q,os,rfl⟩:=h;obtain⟨q',os',rfl⟩:=k;refine⟨q+q',os++os',?_⟩;rw[<-Go.Sort.grow_grow];congr 1;rw[<-World.drewN_drewN];rfl
theorem Gx.alloc{a b:World}(h:Gx a b)(o:Obj):Gx a (b.alloc o):=h.trans ⟨0,#[o],by rw[Go.Sort.alloc_eq_grow];rfl⟩
theorem Gx.drew{a b:World}(h:Gx a b):Gx a b.drew:=h.trans ⟨1,#[],by rw[Go.Sort.grow_empty];rfl⟩
theorem Gx.gr{a b:World}(h:Gx a b):Gr a b:=by obtain⟨q,os,rfl⟩:=h;refine⟨rfl,rfl,rfl,by simp[Go.Sort.grow],fun k hk=>?_⟩;simp only[Go.Sort.grow,World.heap_drewN];rw[fO hk]
def RK(A Bk:Nat)(a b:Ky)(j:Nat)(x:Value)(w:World):Prop:=
 match j with
 |0=>x=.pointer (some ⟨A,0,none⟩)
 |1=>x=.int .i64 a.1
 |2=>x=.pointer (some ⟨Bk,0,none⟩)
 |3=>x=.int .i64 b.1
 |4=>x=.int .i64 (cI a.1 b.1)
 |5=>x=.pointer (some ⟨A,1,none⟩)
 |6=>x=.int .i64 a.2
 |7=>x=.pointer (some ⟨Bk,1,none⟩)
 |8=>x=.int .i64 b.2
 |9=>x=.int .i64 (cI a.2 b.2)
 |10=>∃g,x=.slice (some ⟨g,0,none⟩) 2 2/\w.heap[g]?=some (.cells #[.int .i64 (cI a.1 b.1),.int .i64 (cI a.2 b.2)] 3 (0,0))
 |11=>x=.int .i64 (cK a b)
 |_=>True
theorem RK.gr{a b:Ky}(j:Nat)(x:Value)(wa wb:World)(h:RK A Bk a b j x wa)(g:Gr wa wb):RK A Bk a b j x wb:=by
 match j,h with
 |0,h=>exact h
 |1,h=>exact h
 |2,h=>exact h
 |3,h=>exact h
 |4,h=>exact h
 |5,h=>exact h
 |6,h=>exact h
 |7,h=>exact h
 |8,h=>exact h
 |9,h=>exact h
 |10,h=>obtain⟨q,h1,h2⟩:=h;exact⟨q,h1,gK g h2⟩
 |11,h=>exact h
 |_+12,_=>trivial
structure EKk(A Bk:Nat)(a:Act):Prop where
 sz:17<=a.tmps.size
 df:a.defers=[]
 t2:a.eval (.tmp 2)=.pointer (some ⟨A,0,none⟩)
 t3:a.eval (.tmp 3)=.pointer (some ⟨Bk,0,none⟩)
theorem EKk.put(a:Act)(i:Nat)(x:Value)(hi:i<12)(h:EKk A Bk a):EKk A Bk (a.put (some (5+i)) x):=by
 refine⟨by simpa[Act.put] using h.sz,h.df,?_,?_⟩<;>rw[iX (by omega)]
 ·exact h.t2
 ·exact h.t3
theorem pU(a b:Ky)(w:World):Calls prog 92 #[.agg #[.int .i64 a.1,.int .i64 a.2],.agg #[.int .i64 b.1,.int .i64 b.2]] w fun e w'=>e=.returned (.int .i64 (cK a b))/\Gx w w':=by
 go_enter func92,ntmps92;go_wp2_with fail;have HA:=hZ (fY w (.cells #[.int .i64 a.1,.int .i64 a.2] 97));have HA2:=hZ (gK (gZ.alloc (.cells #[.int .i64 b.1,.int .i64 b.2] 97)) HA.out);have HB2:=hZ (fY (w.alloc (.cells #[.int .i64 a.1,.int .i64 a.2] 97)) (.cells #[.int .i64 b.1,.int .i64 b.2] 97));have G0:=hZ (((Gx.refl w).alloc (.cells #[.int .i64 a.1,.int .i64 a.2] 97)).alloc (.cells #[.int .i64 b.1,.int .i64 b.2] 97));have hsz:(w.alloc (.cells #[.int .i64 a.1,.int .i64 a.2] 97)).heap.size=w.heap.size+1:=by simp
 rw[hsz] at HB2;refine oO (c:=5) rfl 12 (by rfl) (RK w.heap.size (w.heap.size+1) a b) (EKk w.heap.size (w.heap.size+1)) (fun wr=>Gx w wr/\wr.heap[w.heap.size]?=some (.cells #[.int .i64 a.1,.int .i64 a.2] 97 (0,0))/\wr.heap[w.heap.size+1]?=some (.cells #[.int .i64 b.1,.int .i64 b.2] 97 (0,0))) (fun _ wa wb=>Gx wa wb) (fun a i x hi h=>EKk.put a i x hi h) (fun a h=>by have:=h.sz;omega) (fun i wa wb h g=>⟨h.1.trans g,gK g.gr h.2.1,gK g.gr h.2.2⟩) (fun i j x wa wb _ h g=>RK.gr j x wa wb h g.gr) ?front ?last ?e0 ⟨G0.drew,HA2.out,HB2.out⟩;case e0=>exact⟨by simp,rfl,rfl,rfl⟩
 case front=>
  intro i o a' wr ho hi hE hW hd K hK;have ca0:wr.cell? ⟨w.heap.size,0,none⟩=some (.int .i64 a.1):=by rw[cZ hW.2.1];rfl
  have ca1:wr.cell? ⟨w.heap.size,1,none⟩=some (.int .i64 a.2):=by rw[cZ hW.2.1];rfl
  have cb0:wr.cell? ⟨w.heap.size+1,0,none⟩=some (.int .i64 b.1):=by rw[cZ hW.2.2];rfl
  have cb1:wr.cell? ⟨w.heap.size+1,1,none⟩=some (.int .i64 b.2):=by rw[cZ hW.2.2];rfl
  match i,ho,hi,hd,hK with
  |0,ho,_,hd,hK=>obtain rfl:=oZ ho;have e0:=(evn a' 2).symm.trans hE.t2;unfold Oper.wp;go_simp;exact hK _ _ (Gx.refl _) rfl
  |5,ho,_,hd,hK=>obtain rfl:=oZ ho;have e0:=(evn a' 2).symm.trans hE.t2;unfold Oper.wp;go_simp;exact hK _ _ (Gx.refl _) rfl
  |2,ho,_,hd,hK=>obtain rfl:=oZ ho;have e0:=(evn a' 3).symm.trans hE.t3;unfold Oper.wp;go_simp;exact hK _ _ (Gx.refl _) rfl
  |7,ho,_,hd,hK=>obtain rfl:=oZ ho;have e0:=(evn a' 3).symm.trans hE.t3;unfold Oper.wp;go_simp;exact hK _ _ (Gx.refl _) rfl
  |1,ho,_,hd,hK=>obtain rfl:=oZ ho;have e0:a'.eval (.tmp 5)=.pointer (some ⟨w.heap.size,0,none⟩):=hd ⟨0,.data⟩ (by simp) rfl;rw[evn] at e0;unfold Oper.wp;go_simp;exact hK _ _ (Gx.refl _) rfl
  |3,ho,_,hd,hK=>obtain rfl:=oZ ho;have e0:a'.eval (.tmp 7)=.pointer (some ⟨w.heap.size+1,0,none⟩):=hd ⟨2,.data⟩ (by simp) rfl;rw[evn] at e0;unfold Oper.wp;go_simp;exact hK _ _ (Gx.refl _) rfl
  |6,ho,_,hd,hK=>obtain rfl:=oZ ho;have e0:a'.eval (.tmp 10)=.pointer (some ⟨w.heap.size,1,none⟩):=hd ⟨5,.data⟩ (by simp) rfl;rw[evn] at e0;unfold Oper.wp;go_simp;exact hK _ _ (Gx.refl _) rfl
  |8,ho,_,hd,hK=>obtain rfl:=oZ ho;have e0:a'.eval (.tmp 12)=.pointer (some ⟨w.heap.size+1,1,none⟩):=hd ⟨7,.data⟩ (by simp) rfl;rw[evn] at e0;unfold Oper.wp;go_simp;exact hK _ _ (Gx.refl _) rfl
  |4,ho,_,hd,hK=>obtain rfl:=oZ ho;have e0:a'.eval (.tmp 6)=.int .i64 a.1:=hd ⟨1,.data⟩ (by simp) rfl;have e1:a'.eval (.tmp 8)=.int .i64 b.1:=hd ⟨3,.data⟩ (by simp) rfl;rw[evn] at e0 e1;unfold Oper.wp;go_simp;refine(Tryz.cmp_Compare_int a.1 b.1 wr).mono ?_;rintro e w2 ⟨rfl,rfl⟩;go_simp;exact hK _ _ (Gx.refl _) rfl
  |9,ho,_,hd,hK=>obtain rfl:=oZ ho;have e0:a'.eval (.tmp 11)=.int .i64 a.2:=hd ⟨6,.data⟩ (by simp) rfl;have e1:a'.eval (.tmp 13)=.int .i64 b.2:=hd ⟨8,.data⟩ (by simp) rfl;rw[evn] at e0 e1;unfold Oper.wp;go_simp;refine(Tryz.cmp_Compare_int a.2 b.2 wr).mono ?_;rintro e w2 ⟨rfl,rfl⟩;go_simp;exact hK _ _ (Gx.refl _) rfl
  |10,ho,_,hd,hK=>obtain rfl:=oZ ho;have e0:a'.eval (.tmp 9)=.int .i64 (cI a.1 b.1):=hd ⟨4,.data⟩ (by simp) rfl;have e1:a'.eval (.tmp 14)=.int .i64 (cI a.2 b.2):=hd ⟨9,.data⟩ (by simp) rfl;rw[evn] at e0 e1;unfold Oper.wp;go_simp;exact hK _ _ ((Gx.refl _).alloc _) ⟨_,rfl,fY _ _⟩
  |11,ho,_,hd,hK=>obtain rfl:=oZ ho;obtain⟨g,e0,hg⟩:RK _ _ _ _ 10 (a'.eval (.tmp 15)) wr:=hd ⟨10,.data⟩ (by simp) rfl;rw[evn] at e0;(have c0:wr.cell? ⟨g,0,none⟩=some (.int .i64 (cI a.1 b.1)):=by rw[cZ hg];rfl);(have c1:wr.cell? ⟨g,1,none⟩=some (.int .i64 (cI a.2 b.2)):=by rw[cZ hg];rfl);unfold Oper.wp;go_simp;refine(Yl _ _ g wr c0 c1).mono ?_;rintro e w2 ⟨rfl,rfl⟩;go_simp;exact hK _ _ (Gx.refl _) rfl
  |k+12,_,hi,_,_=>exact absurd hi (by omega)
 case last=>
  intro o a' wr ho hE hW hd K hK;obtain rfl:=oZ ho;have e0:a'.eval (.tmp 16)=.int .i64 (cK a b):=hd 11 (by omega);rw[evn] at e0;have hdf:=hE.df;have hs4:4<a'.tmps.size:=by have:=hE.sz;omega
  have G9:=hW.1;unfold Oper.wp;go_simp;refine hK _ _ ?_;go_wp2_with fail;exact bodyPost_ret (v:=.int .i64 (cK a b)) (by simp[results,results92,go_sem,hs4]) rfl ⟨rfl,G9⟩
theorem xG(a b:Ky)(w:World):Calls prog 92 #[.agg #[.int .i64 a.1,.int .i64 a.2],.agg #[.int .i64 b.1,.int .i64 b.2]] w fun e w'=>e=.returned (.int .i64 (cK a b))/\Gr w w':=(pU a b w).mono fun _ _ ⟨h1,h2⟩=>⟨h1,h2.gr⟩
open Go.Maps (Keyed)
open Go.ChangeMaps (setBlock)
theorem Tryz.laidOut:laidOutB prog=true:=by kernel_rfl
theorem Tryz.keyedE:Keyed prog 30:=Keyed.of_law (deep_law_laid Tryz.laidOut (m:=2) (by omega) (of_decide_eq_true (by kernel_rfl)) (by kernel_rfl) (by kernel_rfl))
theorem Tryz.keyedK:Keyed prog 97:=Keyed.of_law (deep_law_laid Tryz.laidOut (m:=2) (by omega) (of_decide_eq_true (by kernel_rfl)) (by kernel_rfl) (by kernel_rfl))
theorem Tryz.keyedI:Keyed prog 3:=Go.Maps.int_keyed underlying3
theorem Tryz.tsz:2<=Tryz.prog.types.size:=of_decide_eq_true (by kernel_rfl)
theorem Tryz.ktE:Tryz.prog.keyType 30=true:=by kernel_rfl
theorem Tryz.ktK:Tryz.prog.keyType 97=true:=by kernel_rfl
theorem Tryz.coI:Tryz.prog.cellsOf 3=1:=by kernel_rfl
theorem Tryz.coE:Tryz.prog.cellsOf 30=2:=by kernel_rfl
theorem Tryz.coK:Tryz.prog.cellsOf 97=2:=by kernel_rfl
def pk(k:Ky):Value:=.agg #[.int .i64 k.1,.int .i64 k.2]
def I64(x:Int):Prop:=-9223372036854775808<=x/\x<=9223372036854775807
theorem I64.wf{x:Int}(h:I64 x):(Lit.int .i64 x).wf=true:=WalkArith.wf_i64 h
theorem Xo{t e:TypeId}(hu:P.underlying t=some (.array 2 e))(he:P.underlying e=some (.int .i64))(hk:P.keyType t=true)(hc:P.cellsOf t=2)(hce:P.cellsOf e=1)(hs:2<=P.types.size)(k:Ky)(h1:I64 k.1)(h2:I64 k.2):∃l,keyOf P t (pk k)=some l:=by obtain⟨d,hd⟩:∃d,P.types.size=d+1:=⟨P.types.size-1,by omega⟩;refine⟨.string (keyBytes [.int .i64 k.1,.int .i64 k.2]),?_⟩;unfold keyOf;rw[hu];simp[hk,pk,Value.formed,Value.cells,hu,Program.keyLits,hd,hc,hce,he,h1.wf,h2.wf,List.range_succ]
theorem Xn {t e : TypeId}{f g : Field}(hu : P.underlying t = some (.struct #[f, g]))(hf : f.name ≠ "_" ∧ f.type = e ∧ f.offset = 0)(hg : g.name ≠ "_" ∧ g.type = e ∧ g.offset = 1)(he : P.underlying e = some (.int .i64))(hk : P.keyType t = true)(hc : P.cellsOf t = 2)(hce : P.cellsOf e = 1)(hs : 2 ≤ P.types.size)(k : Ky)(h1 : I64 k.1)(h2 : I64 k.2) : ∃ l, keyOf P t (pk k) = some l := by
 obtain⟨d,hd⟩:∃d,P.types.size=d+1:=⟨P.types.size-1,by omega⟩;refine⟨.string (keyBytes [.int .i64 k.1,.int .i64 k.2]),?_⟩;unfold keyOf;rw[hu];simp[hk,pk,Value.formed,Value.cells,hu,Program.keyLits,hd,hc,hce,he,h1.wf,h2.wf,hf,hg]
theorem Bc(k:Ky)(h1:I64 k.1)(h2:I64 k.2):∃l,keyOf prog 30 (pk k)=some l:=Xo underlying30 underlying3 Tryz.ktE Tryz.coE Tryz.coI Tryz.tsz k h1 h2
theorem Jv(k:Ky)(h1:I64 k.1)(h2:I64 k.2):∃l,keyOf prog 97 (pk k)=some l:=Xn underlying97 ⟨by decide,rfl,rfl⟩ ⟨by decide,rfl,rfl⟩ underlying3 Tryz.ktK Tryz.coK Tryz.coI Tryz.tsz k h1 h2
theorem Zx(x:Int)(h:I64 x):∃l,keyOf prog 3 (.int .i64 x)=some l:=⟨_,Go.Maps.keyOf_int_mk underlying3 h.wf⟩
open Go.ChangeShapes Go.WideShapes Go.ChangeAt Go.RowKit
theorem Tryz.own:ownKnob Tryz.prog.godebug=none:=by kernel_rfl
theorem aAV{W:World}(h:W.ShapedOpen prog):∃m,Ml m W:=by obtain⟨m,hm⟩:=Tryz.laysM144.s1_3 W h;exact⟨m,hm,dC _ _ hm⟩
theorem nK(b off i:Nat):(⟨b,off,none⟩:Addr).add i=⟨b,off+i,none⟩:=by unfold Addr.add;split<;>simp_all
theorem Ur(d:DataW H):1<=Rows.uptoBulk d:=by
 cases d with
 |lit l=>cases l<;>simp[Rows.uptoBulk]
 |nil=>simp[Rows.uptoBulk]
 |ptr d=>simp[Rows.uptoBulk]
 |slice elems spare=>simp[Rows.uptoBulk]
 |agg parts=>simp[Rows.uptoBulk]
 |iface t d=>simp[Rows.uptoBulk]
 |map entries=>simp[Rows.uptoBulk]
 |held h=>simp[Rows.uptoBulk]
theorem tC{d:DataW H}{l:List (DataW H)}(h:d∈l):Rows.uptoBulk d<=Rows.uptoBulkAll l:=by
 induction l with
 |nil=>cases h
 |cons x r ih=>
  simp only[Rows.uptoBulkAll];rcases aN.1 h with e|e
  ·subst e;omega
  ·have:=ih e;omega
theorem Ia(l:List (DataW H)):l.length<=Rows.uptoBulkAll l:=by
 induction l with
 |nil=>simp[Rows.uptoBulkAll]
 |cons x r ih=>have:=Ur x;simp only[Rows.uptoBulkAll,bA];omega
theorem tX{d:DataW H}{len:Nat}(h:len=0\/∃es sp,d=.slice es sp/\es.length=len):len<=Rows.uptoBulk d:=by
 rcases h with h|⟨es,sp,rfl,rfl⟩
 ·omega
 ·have:=Ia es;simp only[Rows.uptoBulk];omega
theorem tF{enc:TypeId×Value->H}{a:Assume}{C:Checked}{os:Os}{f:FuncId}{fn:Func}{s:OpenSpec}{k:(H:Type)->List (DataW H)->Bool}(hk:s.cond=some k){F:Stop.Interp}{conds:List PathCond}{apart Mo handsOn again:Bool}(own:ownKnob C.prog.godebug=none)(started:os.Started)(noInit:C.prog.inits.idxOf? f=none)(hfn:C.prog.funcs[f]?=some fn)(witness:∃(w:World)(tape:Tape)(i:Input),w.os=os/\(w.forCall tape i).Shaped C.prog/\i.vars=[]/\Input.okWide C.prog (w.forCall tape i) .any w.heap.size f i /\s.pre6 enc C.prog fn conds apart (w.forCall tape i).memory i.args/\a.holds C.prog (lone (Frame.enter C.prog f i.args .normal) [] (w.forCall tape i)))(contract:∀(W:World)(base:Nat)(args:Array Value)(ds gs:List (DataW H))(before:List MemPlace),(∀(j:Nat) t v,fn.params[j]?=some t->args[j]?=some v->Value.okWide C.prog W .any base t v) ->DataW.Whole enc C.prog fn.params.toList s.vars apart W args.toList ds gs before->k H (ds++gs)=true->W.ShapedOpen C.prog ->Calls C.prog f args W fun e W'=>∃v,e=.returned v/\(s.at F).post enc C.prog fn apart Mo handsOn again W args v W'):ReturnsInHanded a C os f .any (s.pre6 enc C.prog fn conds apart) ((s.at F).post enc C.prog fn apart Mo handsOn again):=by refine returnsInHanded_of_calls own started noInit witness ?_;intro w tape i _ hsh _ hok hpre _;obtain⟨_,_,_,fn',hfn',_,_,_,_,hval⟩:=hok;obtain rfl:fn'=fn:=oZ (hfn'.symm.trans hfn);obtain⟨ds,gs,before,hw,_,hkk⟩:=(OpenSpec.pre_some hk conds apart _ _).1 hpre.1;refine(contract (w.forCall tape i) w.heap.size i.args ds gs before hval (DataW.Whole.of_heap (w':=w.forCall tape i) (by rfl) hw) hkk hsh).mono fun e W' ⟨v,he,hp⟩=>?_;subst he;exact ChangeSpec.post_blind hp
end Go.Proofs.YtecnfgikbmcgoabGreat
