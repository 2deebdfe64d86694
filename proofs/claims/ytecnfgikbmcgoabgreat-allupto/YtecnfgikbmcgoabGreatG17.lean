import Derived.Test.YtecnfgikbmcgoabGreatG16
set_option maxHeartbeats 8000000
set_option maxRecDepth 100000
namespace Go.Proofs.YtecnfgikbmcgoabGreat
open Go.Proofs.Tryz
open Go.RowKit
variable {A B' E E1:Nat->Prop}{L' b0 base j u x:Nat}{es:List Ky}{part:Nat->Nat}{w w':World}
structure Kx(E:Nat->Prop)(w w':World):Prop where
 os:w'.os=w.os
 tape:w'.tape=w.tape
 output:w'.output=w.output
 size:w.heap.size<=w'.heap.size
 keep:∀k,k<w.heap.size->¬E k->w'.heap[k]?=w.heap[k]?
theorem Kx.gr(g:Gr w w'):Kx E w w':=⟨g.os,g.tape,g.output,g.size,fun k hk _=>g.block k hk⟩
theorem Kx.trans{w1 w2:World}(h:Kx E w w1)(k:Kx E1 w1 w2)(hE:∀k,k<w.heap.size->E1 k->E k):Kx E w w2:=⟨k.os.trans h.os,k.tape.trans h.tape,k.output.trans h.output,aA h.size k.size,fun i hi hn=>(k.keep i (aF hi h.size) (fun e=>hn (hE i hi e))).trans (h.keep i hi hn)⟩
theorem Kx.wide{w1:World}(h:Kx E w w1)(hE:∀k,k<w.heap.size->E k->E1 k):Kx E1 w w1:=⟨h.os,h.tape,h.output,h.size,fun k hk hn=>h.keep k hk (fun e=>hn (hE k hk e))⟩
theorem Fr.kx{r r':Nat->Rl}(h:Fr r r' w w'):Kx (fun k=>r k≠.no) w w':=⟨h.os,h.tape,h.output,h.size,fun k hk hn=>h.keep k hk (Or.inl (dG.1 hn))⟩
open Classical in
noncomputable def kz (E:Nat->Prop):Nat->Rl:=fun k=>if E k then .lm else .no
theorem kS{k:Nat}(h:¬E k):kz E k=.no:=by unfold kz;rw[if_neg h]
theorem Kx.fr(h:Kx E w w'):Fr (kz E) (kz E) w w':=⟨h.os,h.tape,h.output,h.size,fun k hk hr=>h.keep k hk (fun he=>by unfold kz at hr;rw[if_pos he] at hr;rcases hr with hr|hr<;>cases hr),fun _ _=>rfl⟩
theorem BkL.at{T TS:TypeId}{sz:Nat}{mkf:Nat->List Value}{v:Value}{ls:List Value}(h:BkL T TS sz base mkf w v ls)(hk:∀q,q<w.heap.size->v.ownBlock=some q->w'.heap[q]?=w.heap[q]?)(hs:∀i,i<ls.length->∀q,q<w.heap.size->(vat ls i).ownBlock=some q->w'.heap[q]?=w.heap[q]?):BkL T TS sz base mkf w' v ls:=⟨mJ h.own hk,fun i hi=>by obtain⟨ad,n,cap,h1,h2,h3⟩:=h.ok i hi;exact⟨ad,n,cap,h1,h2,mJ h3 (fun q hq e=>hs i hi q hq (by rw[h1];exact e))⟩⟩
structure Bl where
 ad:Option Addr
 cap:Nat
 ls:List Value
def Bl.v(b:Bl):Value:=.slice b.ad b.ls.length b.cap
structure Bq(B:Nat->Prop)(L:Nat)(w:World)(T TS:TypeId)(sz:Nat)(mkf:Nat->List Value)(b:Bl):Prop where
 l:BkL T TS sz 0 mkf w b.v b.ls
 m4:b.ls.length % 4=0
 n:b.ls.length<=L
 o:∀q,b.v.ownBlock=some q->B q
 os:∀i,i<b.ls.length->∀q,(vat b.ls i).ownBlock=some q->B q
def Bw(B:Nat->Prop)(own:Option Nat)(w w':World):Nat->Prop:=fun k=>B k\/own=some k\/(w.heap.size<=k/\k<w'.heap.size)
section
variable {B:Nat->Prop}{L:Nat}{w w':World}{T TS:TypeId}{sz:Nat}{mkf:Nat->List Value}{b:Bl}
theorem Bq.at(h:Bq B L w T TS sz mkf b)(hk:∀q,q<w.heap.size->B q->w'.heap[q]?=w.heap[q]?):Bq B L w' T TS sz mkf b:=⟨h.l.at (fun q hq e=>hk q hq (h.o q e)) (fun i hi q hq e=>hk q hq (h.os i hi q e)),h.m4,h.n,h.o,h.os⟩
theorem Bq.wide(h:Bq B L w T TS sz mkf b)(hB:∀k,B k->B' k)(hL:L<=L'):Bq B' L' w T TS sz mkf b:=⟨h.l,h.m4,aA h.n hL,fun q e=>hB q (h.o q e),fun i hi q e=>hB q (h.os i hi q e)⟩
theorem Bq.congr(h:Bq B L w T TS sz mkf b){mkf':Nat->List Value}(hm:∀j,j*4<b.ls.length->mkf' j=mkf j):Bq B L w T TS sz mkf' b:=⟨⟨h.l.own,fun i hi=>by obtain⟨ad,n,cap,h1,h2,h3⟩:=h.l.ok i hi;exact⟨ad,n,cap,h1,h2,by rw[hm (i/4) (by omega)];exact h3⟩⟩,h.m4,h.n,h.o,h.os⟩
theorem Bq.kv(h:Bq B L w T TS sz mkf b){ts:List TypeId}{own:Option Nat}(k:Kv ts own 0 w w')(h1:¬T∈ts)(h2:¬TS∈ts)(ho:∀q,B q->own≠some q):Bq B L w' T TS sz mkf b:=⟨⟨k.owns h.l.own h2 (fun q e=>ho q (h.o q e)),fun i hi=>by obtain⟨ad,n,cap,e1,e2,e3⟩:=h.l.ok i hi;exact⟨ad,n,cap,e1,e2,k.owns e3 h1 (fun q e=>ho q (h.os i hi q (by rw[e1];exact e)))⟩⟩,h.m4,h.n,h.o,h.os⟩
theorem kN{e:TypeId}{size n:Nat}{v:Value}{xs:List Value}(h:w.ownsRow base e size v n xs){q:Nat}(hq:v.ownBlock=some q):q<w.heap.size:=by
 rcases h.2 with⟨hv,_⟩|⟨g,cap',cur,hv,_,hh,_⟩
 ·rw[hv] at hq;simp[Value.ownBlock] at hq
 ·rw[hv] at hq;have:g=q:=by simpa[Value.ownBlock] using hq
  rw[<-this];exact fZ hh
theorem Bq.kept(h:Bq B L w T TS sz mkf b)(hsz:(mkf (b.ls.length/4)).length=sz){own:Option Nat}{n:Nat}{x vi':Value}{us:List Value}(k:Kept T TS own base w w' (mkf (b.ls.length/4)) n x vi' b.ls us)(hTT:T≠TS)(hTB:T≠39)(ho:∀q,B q->own≠some q)(hn:n<=1099511627776)(hq:∀q,vi'.ownBlock=some q->b.v.ownBlock=some q\/w.heap.size<=q):∃b',Bl.v b'=vi'/\b'.ls.length=b.ls.length+4/\Bq (Bw B own w w') (L+4) w' T TS sz mkf b':=by
 obtain⟨u1,u2,u3,u4⟩:=h.l.kept hsz k hTT hTB (fun i hi q e=>ho q (h.os i hi q e)) hn h.m4;obtain⟨a,c,rfl,_⟩:=gH u2.own;refine⟨⟨a,c,us⟩,rfl,u1,u2,by show us.length % 4=0;have:=h.m4;omega,by show us.length<=L+4;have:=h.n;omega,fun q e=>?_,fun i hi q e=>?_⟩
 ·exact(hq q e).elim (fun e'=>Or.inl (h.o q e')) (fun e'=>Or.inr (Or.inr ⟨e',kN u2.own e⟩))
 ·by_cases hl:i<b.ls.length
  ·rw[u3 i hl] at e;exact Or.inl (h.os i hl q e)
  ·obtain⟨ad2,n2,cap2,h1,h2,h3⟩:=u2.ok i hi;exact Or.inr ((u4 i (by omega) hi q e).imp id (fun e'=>⟨e',kN h3 (by rw[<-h1];exact e)⟩))
end
structure BoX(BB:Nat)(B:Nat->Prop)(L:Nat)(w:World)(a e l k:Bl)(ms:List Nat):Prop where
 lt:∀k,B k->k<w.heap.size
 bb:B BB
 bx:w.heap[BB]?=some (.cells #[.slice none 0 0,a.v,.slice none 0 0,e.v,l.v,k.v] 39 (0,0))
 qa:Bq B L w 86 77 4 Ol a
 qe:Bq B L w 78 91 1 (Dm ms) e
 ql:Bq B L w 94 92 3 Wy l
 qk:Bq B L w 97 95 2 Ww k
 ml:ms.length*4=e.ls.length
 mb:Mks w ms e.ls.length
 mo:∀j,j<ms.length->B (ms.getD j 0)
def Bo(BB:Nat)(B:Nat->Prop)(L:Nat)(w:World):Prop:=∃a e l k ms,BoX BB B L w a e l k ms
section
variable {BB:Nat}{B:Nat->Prop}{L:Nat}{w w':World}{a e l k:Bl}{ms:List Nat}
theorem BoX.wide(h:BoX BB B L w a e l k ms)(hB:∀k,B k->B' k)(hlt:∀k,B' k->k<w.heap.size)(hL:L<=L'):BoX BB B' L' w a e l k ms:=⟨hlt,hB _ h.bb,h.bx,h.qa.wide hB hL,h.qe.wide hB hL,h.ql.wide hB hL,h.qk.wide hB hL,h.ml,h.mb,fun j hj=>hB _ (h.mo j hj)⟩
theorem BoX.apart(h:BoX BB B L w a e l k ms)(g:Kx E w w')(hB:∀k,B k->¬E k):BoX BB B L w' a e l k ms:=by have hk:∀q,q<w.heap.size->B q->w'.heap[q]?=w.heap[q]?:=fun q hq hb=>g.keep q hq (hB q hb);exact⟨fun k hk=>aF (h.lt k hk) g.size,h.bb,(hk _ (h.lt _ h.bb) h.bb).trans h.bx,h.qa.at hk,h.qe.at hk,h.ql.at hk,h.qk.at hk,h.ml,fun j hj=>(hk _ (h.lt _ (h.mo j (by have:=h.ml;omega))) (h.mo j (by have:=h.ml;omega))).trans (h.mb j hj),h.mo⟩
theorem Bo.lt(h:Bo BB B L w):∀k,B k->k<w.heap.size:=by obtain⟨a,e,l,k,ms,h⟩:=h;exact h.lt
theorem Bo.up(h:Bo BB B L w)(hL:L<=L'):Bo BB B L' w:=by obtain⟨a,e,l,k,ms,h⟩:=h;exact⟨a,e,l,k,ms,h.wide (fun _ h=>h) h.lt hL⟩
theorem Bo.apart(h:Bo BB B L w)(g:Kx E w w')(hB:∀k,B k->¬E k):Bo BB B L w':=by obtain⟨a,e,l,k,ms,h⟩:=h;exact⟨a,e,l,k,ms,h.apart g hB⟩
theorem Bo.gr(h:Bo BB B L w)(g:Gr w w'):Bo BB B L w':=h.apart (E:=fun _=>False) (Kx.gr g) (fun _ _ e=>e)
theorem Bo.whole(h:Bo BB B L w)(hL:L<=1099511627776):Calls prog 11 #[.pointer (some ⟨BB,0,none⟩)] w fun e w'=>e=.returned (.bool true)/\Gr w w':=by obtain⟨a,e,l,k,ms,h⟩:=h;exact Ni BB 0 a.ad e.ad l.ad k.ad a.cap e.cap l.cap k.cap a.ls e.ls l.ls k.ls ms w (aA h.qa.n hL) (aA h.qe.n hL) (aA h.ql.n hL) (aA h.qk.n hL) h.bx h.qa.l h.qe.l h.mb h.ql.l h.qk.l
theorem Jj{n:Nat}(h:n % 4=0):((n/4:Nat):Int)*4=(n:Int):=by omega
theorem Bw.lt{own:Option Nat}(hB:∀k,B k->k<w.heap.size)(hs:w.heap.size<=w'.heap.size)(ho:∀q,own=some q->q<w.heap.size):∀k,Bw B own w w' k->k<w'.heap.size:=fun k hk=>by
 rcases hk with hk|hk|hk
 ·exact aF (hB k hk) hs
 ·exact aF (ho k hk) hs
 ·exact hk.2
theorem Mks.kv{ms:List Nat}{n:Nat}(h:Mks w ms n){ts:List TypeId}{own:Option Nat}(k:Kv ts own 0 w w')(h1:¬86∈ts)(ho:∀j,j*4<n->own≠some (ms.getD j 0)):Mks w' ms n:=fun j hj=>k.kp _ _ _ _ (h j hj) h1 (ho j hj)
section
variable {ad:Option Addr}{n cap:Nat}{xs:List Value}
theorem BoX.keepA(h:BoX BB B L w a e l k ms)(hL:L<=1099511627776)(hn:n<=1099511627776)(hv:w.ownsRow 0 86 4 (.slice ad n cap) n xs)(ho:∀q,B q->Value.ownBlock (.slice ad n cap)≠some q):Calls prog 89 #[.pointer (some ⟨BB,0,none⟩),.slice ad n cap] w fun x w'=>x=.returned (.tuple #[])/\∃a',BoX BB (Bw B (Value.ownBlock (.slice ad n cap)) w w') (L+4) w' a' e l k ms/\Kx (fun k=>B k\/Value.ownBlock (.slice ad n cap)=some k) w w':=by refine(Be BB 0 _ _ _ _ _ ad a.ad n cap a.cap xs a.ls w hn (aA h.qa.n hL) h.bx zZ h.qa.l.own hv).mono ?_;rintro x w' ⟨he,vi',us,hbx,hk,hz,hq⟩;rw[show mkE (-1-(a.ls.length:Int))=Ol (a.ls.length/4) by unfold Ol;rw[Jj h.qa.m4]] at hk;obtain⟨a',rfl,_,ha⟩:=h.qa.kept rfl hk (by decide) (by decide) ho hn hq;have hm:∀j,j*4<e.ls.length->B (ms.getD j 0):=fun j hj=>h.mo j (by have:=h.ml;omega);exact⟨he,a',⟨Bw.lt h.lt hk.fr.size (fun q e=>kN hv e),Or.inl h.bb,hbx,ha,(h.qe.kv hk.fr (by decide) (by decide) ho).wide (fun _=>Or.inl) (by omega),(h.ql.kv hk.fr (by decide) (by decide) ho).wide (fun _=>Or.inl) (by omega),(h.qk.kv hk.fr (by decide) (by decide) ho).wide (fun _=>Or.inl) (by omega),h.ml,h.mb.kv hk.fr (by decide) (fun j hj=>ho _ (hm j hj)),fun j hj=>Or.inl (h.mo j hj)⟩,⟨hk.fr.be.os,hk.fr.be.tape,hk.fr.be.output,hk.fr.be.size,fun z hz' hn'=>hz z hz' (fun e=>hn' (Or.inr e)) (fun e=>hn' (Or.inl (h.qa.o z e))) (fun e=>hn' (Or.inl (e▸h.bb)))⟩⟩
end
end
def Bn(B:Nat->Prop)(b0 b1:Nat):Nat->Prop:=fun k=>B k\/(b0<=k/\k<b1)
def It(BB:Nat)(B:Nat->Prop)(L b0:Nat)(w:World)(e:Ending)(w':World):Prop:=e=.returned (.tuple #[])/\Bo BB (Bn B b0 w'.heap.size) (L+4) w'/\Kx (fun k=>B k\/b0<=k) w w'
section
variable {BB:Nat}{B:Nat->Prop}{L:Nat}{w:World}{ad:Option Addr}{n cap:Nat}{xs:List Value}
theorem Bo.keepL(h:Bo BB B L w)(hL:L<=1099511627776)(hb0:b0<=w.heap.size)(hB:∀k,B k->k<b0)(hn:n<=1099511627776)(hv:w.ownsRow b0 94 3 (.slice ad n cap) n xs):Calls prog 63 #[.pointer (some ⟨BB,0,none⟩),.slice ad n cap] w fun e w'=>It BB B L b0 w e w':=by
 obtain⟨a,e,l,k,ms,h⟩:=h;have ho:∀q,B q->Value.ownBlock (.slice ad n cap)≠some q:=fun q hb e=>by have h1:=iC hv q e;have h2:=hB q hb;omega
 refine(Bd BB b0 _ _ _ _ _ ad l.ad n cap l.cap xs l.ls w hn (aA h.ql.n hL) h.bx hb0 h.ql.l.own hv).mono ?_;rintro x w' ⟨he,vi',us,hbx,hk,hz,hq⟩;rw[show mkL (-1-(l.ls.length:Int))=Wy (l.ls.length/4) by unfold Wy;rw[Jj h.ql.m4]] at hk;obtain⟨a',rfl,_,ha⟩:=h.ql.kept rfl hk (by decide) (by decide) ho hn hq;have hm:∀j,j*4<e.ls.length->B (ms.getD j 0):=fun j hj=>h.mo j (by have:=h.ml;omega);have hx:BoX BB (Bw B (Value.ownBlock (.slice ad n cap)) w w') (L+4) w' a e a' k ms:=⟨Bw.lt h.lt hk.fr.size (fun q e=>kN hv e),Or.inl h.bb,hbx,(h.qa.kv hk.fr (by decide) (by decide) ho).wide (fun _=>Or.inl) (by omega),(h.qe.kv hk.fr (by decide) (by decide) ho).wide (fun _=>Or.inl) (by omega),ha,(h.qk.kv hk.fr (by decide) (by decide) ho).wide (fun _=>Or.inl) (by omega),h.ml,h.mb.kv hk.fr (by decide) (fun j hj=>ho _ (hm j hj)),fun j hj=>Or.inl (h.mo j hj)⟩;refine⟨he,⟨a,e,a',k,ms,hx.wide (fun z hz'=>?_) (fun z hz'=>?_) lZ⟩,⟨hk.fr.be.os,hk.fr.be.tape,hk.fr.be.output,hk.fr.be.size,fun z hz' hn'=>hz z hz' (fun e=>hn' (Or.inr (iC hv z e))) (fun e=>hn' (Or.inl (h.ql.o z e))) (fun e=>hn' (Or.inl (e▸h.bb)))⟩⟩
 ·rcases hz' with hz'|hz'|hz'
  ·exact Or.inl hz'
  ·exact Or.inr ⟨iC hv z hz',aF (kN hv hz') hk.fr.size⟩
  ·exact Or.inr ⟨aA hb0 hz'.1,hz'.2⟩
 ·rcases hz' with hz'|hz'
  ·exact aF (h.lt z hz') hk.fr.size
  ·exact hz'.2
theorem Bo.keepY(h:Bo BB B L w)(hL:L<=1099511627776)(hb0:b0<=w.heap.size)(hB:∀k,B k->k<b0)(hn:n<=1099511627776)(hv:w.ownsRow b0 97 2 (.slice ad n cap) n xs):Calls prog 66 #[.pointer (some ⟨BB,0,none⟩),.slice ad n cap] w fun e w'=>It BB B L b0 w e w':=by
 obtain⟨a,e,l,k,ms,h⟩:=h;have ho:∀q,B q->Value.ownBlock (.slice ad n cap)≠some q:=fun q hb e=>by have h1:=iC hv q e;have h2:=hB q hb;omega
 refine(Dv BB b0 _ _ _ _ _ ad k.ad n cap k.cap xs k.ls w hn (aA h.qk.n hL) h.bx hb0 h.qk.l.own hv).mono ?_;rintro x w' ⟨he,vi',us,hbx,hk,hz,hq⟩;rw[show mkY (-1-(k.ls.length:Int))=Ww (k.ls.length/4) by unfold Ww;rw[Jj h.qk.m4]] at hk;obtain⟨a',rfl,_,ha⟩:=h.qk.kept rfl hk (by decide) (by decide) ho hn hq;have hm:∀j,j*4<e.ls.length->B (ms.getD j 0):=fun j hj=>h.mo j (by have:=h.ml;omega);have hx:BoX BB (Bw B (Value.ownBlock (.slice ad n cap)) w w') (L+4) w' a e l a' ms:=⟨Bw.lt h.lt hk.fr.size (fun q e=>kN hv e),Or.inl h.bb,hbx,(h.qa.kv hk.fr (by decide) (by decide) ho).wide (fun _=>Or.inl) (by omega),(h.qe.kv hk.fr (by decide) (by decide) ho).wide (fun _=>Or.inl) (by omega),(h.ql.kv hk.fr (by decide) (by decide) ho).wide (fun _=>Or.inl) (by omega),ha,h.ml,h.mb.kv hk.fr (by decide) (fun j hj=>ho _ (hm j hj)),fun j hj=>Or.inl (h.mo j hj)⟩;refine⟨he,⟨a,e,l,a',ms,hx.wide (fun z hz'=>?_) (fun z hz'=>?_) lZ⟩,⟨hk.fr.be.os,hk.fr.be.tape,hk.fr.be.output,hk.fr.be.size,fun z hz' hn'=>hz z hz' (fun e=>hn' (Or.inr (iC hv z e))) (fun e=>hn' (Or.inl (h.qk.o z e))) (fun e=>hn' (Or.inl (e▸h.bb)))⟩⟩
 ·rcases hz' with hz'|hz'|hz'
  ·exact Or.inl hz'
  ·exact Or.inr ⟨iC hv z hz',aF (kN hv hz') hk.fr.size⟩
  ·exact Or.inr ⟨aA hb0 hz'.1,hz'.2⟩
 ·rcases hz' with hz'|hz'
  ·exact aF (h.lt z hz') hk.fr.size
  ·exact hz'.2
end
theorem FiK.blk{ad:Option Addr}{f:List Wnt}(h:FiK base w ad f)(ha:∃b off,ad=some ⟨b,off,none⟩/\A b)(hs:w.heap.size<=w'.heap.size)(hk:∀k,k<w.heap.size->A k->w'.heap[k]?=w.heap[k]?):FiK base w' ad f:=by obtain⟨b,off,rfl,h1,h2,h3⟩:=h;obtain⟨b',off',e,ha⟩:=ha;injection e with e;injection e with e1 e2;subst e1 e2;have hb:=hk b h1 ha;exact⟨b,off,rfl,aF h1 hs,h2.imp id (fun h=>h.at (fun _=>hb)),h3.blk hb⟩
theorem EvK.blk{ad:Option Addr}{f:List Atr}(h:EvK base w ad f)(ha:∃b off,ad=some ⟨b,off,none⟩/\A b)(hs:w.heap.size<=w'.heap.size)(hk:∀k,k<w.heap.size->A k->w'.heap[k]?=w.heap[k]?):EvK base w' ad f:=by obtain⟨b,off,rfl,h1,h2,h3⟩:=h;obtain⟨b',off',e,ha⟩:=ha;injection e with e;injection e with e1 e2;subst e1 e2;have hb:=hk b h1 ha;exact⟨b,off,rfl,aF h1 hs,h2.imp id (fun h=>h.at (fun _=>hb)),h3.blk hb⟩
structure LeX(A:Nat->Prop)(base LB:Nat)(D:Nat->Prop)(M:Nat)(w:World)(ve vew vf vw:Value)(Es:List EE)(Fs:List FE):Prop where
 lt:∀k,D k->k<w.heap.size
 lb:D LB
 e:LnE w base LB ve vew vf vw Es
 f:LnF w base LB ve vew vf vw Fs
 m:Es.length<=M
 n:Fs.length<=M
 elen:∀e∈Es,e.f.length<=2932031007402
 len:∀e∈Fs,e.f.length<=2513169434845
 eo:∀q,ve.ownBlock=some q->D q
 ew:∀q,vew.ownBlock=some q->D q
 fo:∀q,vf.ownBlock=some q->D q
 wo:∀q,vw.ownBlock=some q->D q
 eos:∀e∈Es,D e.g
 os:∀e∈Fs,D e.g
 ear:∀e∈Es,∃b off,e.ad=some ⟨b,off,none⟩/\A b
 ar:∀e∈Fs,∃b off,e.ad=some ⟨b,off,none⟩/\A b
 ba:∀k,A k->k<base\/sI w k
def Le(A:Nat->Prop)(LB:Nat)(D:Nat->Prop)(M:Nat)(w:World):Prop:=∃base ve vew vf vw Es Fs,LeX A base LB D M w ve vew vf vw Es Fs
section
variable {A:Nat->Prop}{LB:Nat}{D:Nat->Prop}{M:Nat}{w:World}
theorem Le.lt(h:Le A LB D M w):∀k,D k->k<w.heap.size:=by obtain⟨_,_,_,_,_,_,_,h⟩:=h;exact h.lt
theorem Le.lb(h:Le A LB D M w):D LB:=by obtain⟨_,_,_,_,_,_,_,h⟩:=h;exact h.lb
theorem Le.start(h:w.heap[LB]?=some (.cells #[.slice none 0 0,.slice none 0 0,.slice none 0 0,.slice none 0 0] 66 (0,0)))(M:Nat)(hb:base<=LB)(hA:∀k,A k->k<base\/sI w k):Le A LB (fun k=>k=LB) M w:=⟨base,.slice none 0 0,.slice none 0 0,.slice none 0 0,.slice none 0 0,[],[],fun k hk=>hk▸fZ h,rfl,⟨hb,aA hb (Nat.le_of_lt (fZ h)),h,bF _ _ _ _,bF _ _ _ _,by simp,by simp,by simp⟩,⟨hb,aA hb (Nat.le_of_lt (fZ h)),h,bF _ _ _ _,bF _ _ _ _,by simp,by simp,by simp⟩,zZ,zZ,by simp,by simp,by simp[Value.ownBlock],by simp[Value.ownBlock],by simp[Value.ownBlock],by simp[Value.ownBlock],by simp,by simp,by simp,by simp,hA⟩
theorem Le.apart(h:Le A LB D M w)(g:Kx E w w')(hD:∀k,D k->¬E k)(hA:∀k,A k->¬E k):Le A LB D M w':=by obtain⟨base,ve,vew,vf,vw,Es,Fs,h⟩:=h;have hb:=(g.keep LB (h.lt _ h.lb) (hD _ h.lb)).trans h.f.box;exact⟨base,ve,vew,vf,vw,Es,Fs,fun k hk=>aF (h.lt k hk) g.size,h.lb,⟨h.e.lb,aA h.e.le g.size,hb,mJ h.e.ownf (fun q hq e=>g.keep q hq (hD _ (h.eo q e))),mJ h.e.ownw (fun q hq e=>g.keep q hq (hD _ (h.ew q e))),fun e he=>⟨(h.e.outs e he).1,(g.keep e.g (fZ (h.e.outs e he).2) (hD _ (h.eos e he))).trans (h.e.outs e he).2⟩,fun e he=>⟨(h.e.args e he).1,(h.e.args e he).2.1.blk (h.ear e he) g.size (fun k hk ha=>g.keep k hk (hA k ha)),(h.e.args e he).2.2⟩,h.e.nodup⟩,⟨h.f.lb,aA h.f.le g.size,hb,mJ h.f.ownf (fun q hq e=>g.keep q hq (hD _ (h.fo q e))),mJ h.f.ownw (fun q hq e=>g.keep q hq (hD _ (h.wo q e))),fun e he=>⟨(h.f.outs e he).1,(g.keep e.g (fZ (h.f.outs e he).2) (hD _ (h.os e he))).trans (h.f.outs e he).2⟩,fun e he=>⟨(h.f.args e he).1,(h.f.args e he).2.1.blk (h.ar e he) g.size (fun k hk ha=>g.keep k hk (hA k ha)),(h.f.args e he).2.2⟩,h.f.nodup⟩,h.m,h.n,h.elen,h.len,h.eo,h.ew,h.fo,h.wo,h.eos,h.os,h.ear,h.ar,fun k hk=>(h.ba k hk).imp id (fun c=>c.at (fun hl=>g.keep k hl (hA k hk)))⟩
theorem Le.gr(h:Le A LB D M w)(g:Gr w w'):Le A LB D M w':=h.apart (E:=fun _=>False) (Kx.gr g) (fun _ _ e=>e) (fun _ _ e=>e)
theorem Le.up{M':Nat}(h:Le A LB D M w)(hM:M<=M'):Le A LB D M' w:=by obtain⟨base,ve,vew,vf,vw,Es,Fs,h⟩:=h;exact⟨base,ve,vew,vf,vw,Es,Fs,h.lt,h.lb,h.e,h.f,aA h.m hM,aA h.n hM,h.elen,h.len,h.eo,h.ew,h.fo,h.wo,h.eos,h.os,h.ear,h.ar,h.ba⟩
def aBH(A:Nat->Prop)(LB:Nat)(D:Nat->Prop)(M:Nat)(f:List Wnt)(w:World)(e:Ending)(w':World):Prop:=∃g,e=.returned (.slice (some ⟨g,0,none⟩) f.length (f.length+8))/\w.heap.size<=g/\g<w'.heap.size/\iD w' g 0 f/\Le A LB (Bn D w.heap.size w'.heap.size) (M+1) w'/\Kx D w w'
def aBI(A:Nat->Prop)(LB:Nat)(D:Nat->Prop)(M:Nat)(f:List Atr)(w:World)(e:Ending)(w':World):Prop:=∃g,e=.returned (.slice (some ⟨g,0,none⟩) f.length (f.length+8))/\w.heap.size<=g/\g<w'.heap.size/\iP w' g 0 f/\Le A LB (Bn D w.heap.size w'.heap.size) (M+1) w'/\Kx D w w'
theorem Bn.of{v v':Value}{n:Nat}{e:TypeId}{xs:List Value}(hD:∀q,v.ownBlock=some q->D q)(ho:w'.ownsRow base e 1 v' n xs)(hq:∀q,v'.ownBlock=some q->v.ownBlock=some q\/w.heap.size<=q):∀q,v'.ownBlock=some q->Bn D w.heap.size w'.heap.size q:=fun q e=>(hq q e).imp (hD q) (fun h=>⟨h,kN ho e⟩)
theorem Le.filter(h:Le A LB D M w)(hM:M<=1099511627776)(f:List Wnt)(ad:Option Addr)(cap:Nat)(hne:f≠[])(hlen:f.length<=2513169434845)(hF:∃b off,ad=some ⟨b,off,none⟩/\A b/\b<w.heap.size/\iD w b off f)(hwf:∀x∈f,Wnt.Wf x):Calls prog 19 #[.pointer (some ⟨LB,0,none⟩),.slice ad f.length cap] w fun e w'=>aBH A LB D M f w e w':=by
 obtain⟨base,ve,vew,vf,vw,Es,Fs,h⟩:=h;have ha:∃b off,ad=some ⟨b,off,none⟩/\A b:=by obtain⟨b,off,e,h1,_⟩:=hF;exact⟨b,off,e,h1⟩
 have hF:FiK base w ad f:=by obtain⟨b,off,e,h1,h2,h3⟩:=hF;exact⟨b,off,e,h2,h.ba b h1,h3⟩
 refine(Pf f ad cap base LB ve vew vf vw Fs w hne hlen hF hwf (aA h.n hM) h.f).mono ?_;rintro e w' ⟨g,vf',vw',he,hk,hg,hl,hz,h1,h2⟩;have hin:(⟨g,f,ad,cap⟩:FE)∈Fs++[⟨g,f,ad,cap⟩]:=by simp
 have hc:=(hl.outs _ hin).2;have hgl:=fZ hc;refine⟨g,he,hg,hgl,fun i hi=>?_,⟨base,ve,vew,vf',vw',Es,_,fun k hk'=>?_,Or.inl h.lb,h.e.kp hk hl.box,hl,by have:=h.m;omega,by simp;exact h.n,h.elen,fun e he=>?_,fun q e=>Or.inl (h.eo q e),fun q e=>Or.inl (h.ew q e),Bn.of h.fo hl.ownf h1,Bn.of h.wo hl.ownw h2,fun e he=>Or.inl (h.eos e he),fun e he=>?_,h.ear,fun e he=>?_,fun k hA=>(h.ba k hA).imp id (fun c=>c.kp hk (by decide))⟩,⟨hk.be.os,hk.be.tape,hk.be.output,hk.be.size,fun k hk' hn=>hz k hk' (fun e=>hn (e▸h.lb)) (fun e=>hn (h.fo k e.symm)) (fun e=>hn (h.wo k e.symm))⟩⟩
 ·have hi':i<(nN f).length:=by rw[qE];omega
  obtain⟨a1,a2,a3,a4,a5⟩:=sJ (nN f) i hi';rw[xQ hi] at a1 a2 a3 a4 a5;simp only[cE];refine⟨?_,?_,?_,?_,?_⟩<;>rw[cZ hc]<;>rw[fJ]<;>assumption
 ·rcases hk' with hk'|hk'
  ·exact aF (h.lt k hk') hk.be.size
  ·exact hk'.2
 ·rcases aE.mp he with he|he
  ·exact h.len e he
  ·simp only[aM] at he;subst he;exact hlen
 ·rcases aE.mp he with he|he
  ·exact Or.inl (h.os e he)
  ·simp only[aM] at he;subst he;exact Or.inr ⟨hg,hgl⟩
 ·rcases aE.mp he with he|he
  ·exact h.ar e he
  ·simp only[aM] at he;subst he;exact ha
theorem Le.event(h:Le A LB D M w)(hM:M<=1099511627776)(f:List Atr)(ad:Option Addr)(cap:Nat)(hne:f≠[])(hlen:f.length<=2932031007402)(hF:∃b off,ad=some ⟨b,off,none⟩/\A b/\b<w.heap.size/\iP w b off f)(hwf:∀x∈f,Atr.Wf x):Calls prog 24 #[.pointer (some ⟨LB,0,none⟩),.slice ad f.length cap] w fun e w'=>aBI A LB D M f w e w':=by
 obtain⟨base,ve,vew,vf,vw,Es,Fs,h⟩:=h;have ha:∃b off,ad=some ⟨b,off,none⟩/\A b:=by obtain⟨b,off,e,h1,_⟩:=hF;exact⟨b,off,e,h1⟩
 have hF:EvK base w ad f:=by obtain⟨b,off,e,h1,h2,h3⟩:=hF;exact⟨b,off,e,h2,h.ba b h1,h3⟩
 refine(Tz f ad cap base LB ve vew vf vw Es w hne hlen hF hwf (aA h.m hM) h.e).mono ?_;rintro e w' ⟨g,ve',vew',he,hk,hg,hl,hz,h1,h2⟩;have hin:(⟨g,f,ad,cap⟩:EE)∈Es++[⟨g,f,ad,cap⟩]:=by simp
 have hc:=(hl.outs _ hin).2;have hgl:=fZ hc;refine⟨g,he,hg,hgl,fun i hi=>?_,⟨base,ve',vew',vf,vw,_,Fs,fun k hk'=>?_,Or.inl h.lb,hl,h.f.kp hk hl.box,by simp;exact h.m,by have:=h.n;omega,fun e he=>?_,h.len,Bn.of h.eo hl.ownf h1,Bn.of h.ew hl.ownw h2,fun q e=>Or.inl (h.fo q e),fun q e=>Or.inl (h.wo q e),fun e he=>?_,fun e he=>Or.inl (h.os e he),fun e he=>?_,h.ar,fun k hA=>(h.ba k hA).imp id (fun c=>c.kp hk (by decide))⟩,⟨hk.be.os,hk.be.tape,hk.be.output,hk.be.size,fun k hk' hn=>hz k hk' (fun e=>hn (e▸h.lb)) (fun e=>hn (h.eo k e.symm)) (fun e=>hn (h.ew k e.symm))⟩⟩
 ·have hi':i<(nS f).length:=by rw[qF];omega
  obtain⟨a1,a2,a3,a4⟩:=tE (nS f) i hi';rw[xR hi] at a1 a2 a3 a4;simp only[cE];refine⟨?_,?_,?_,?_⟩<;>rw[cZ hc]<;>rw[fJ]<;>assumption
 ·rcases hk' with hk'|hk'
  ·exact aF (h.lt k hk') hk.be.size
  ·exact hk'.2
 ·rcases aE.mp he with he|he
  ·exact h.elen e he
  ·simp only[aM] at he;subst he;exact hlen
 ·rcases aE.mp he with he|he
  ·exact Or.inl (h.eos e he)
  ·simp only[aM] at he;subst he;exact Or.inr ⟨hg,hgl⟩
 ·rcases aE.mp he with he|he
  ·exact h.ear e he
  ·simp only[aM] at he;subst he;exact ha
theorem Le.still(h:Le A LB D M w)(hM:M<=1099511627776):Calls prog 10 #[.pointer (some ⟨LB,0,none⟩)] w fun e w'=>e=.returned (.bool true)/\(∀M',Le A LB (fun k=>k=LB) M' w')/\Kx D w w':=by obtain⟨base,ve,vew,vf,vw,Es,Fs,h⟩:=h;refine(Qy base LB ve vew vf vw Es Fs w (aA h.m hM) (aA h.n hM) h.elen h.len h.e h.f).mono ?_;rintro e w' ⟨he,hk,hb,hz⟩;exact⟨he,fun M'=>Le.start hb M' h.f.lb (fun k hA=>(h.ba k hA).imp id (fun c=>c.kp hk (by decide))),⟨hk.be.os,hk.be.tape,hk.be.output,hk.be.size,fun k hk' hn=>hz k hk' (fun e=>hn (e▸h.lb)) (fun e he' ee=>hn (ee▸h.eos e he')) (fun e he' ee=>hn (ee▸h.os e he'))⟩⟩
end
def prt(n:Nat)(p:List Nat):Nat->Nat:=fun x=>if x<n then pat p x else x
theorem Wm{p:List Nat}{f:Nat->Nat}(h:x<p.length):pat (p.map f) x=f (pat p x):=by simp[pat,h]
theorem yZ{n:Nat}{p:List Nat}(hl:p.length=n)(hp:∀x∈p,x<n)(h:x<n):pat p x<n:=by refine hp _ ?_;unfold pat;rw[aI,aJ (by omega)];exact eG _
theorem Fu{n:Nat}{p:List Nat}(hl:p.length=n)(hp:∀x∈p,x<n){v:Nat}(hu:u<n)(hv:v<n):prt n (p.map fun x=>if x=pat p v then pat p u else x)=jY (prt n p) u v:=by
 funext x;simp only[prt,jY,if_pos hu,if_pos hv];by_cases hx:x<n
 ·rw[if_pos hx,if_pos hx,Wm (by omega)]
 ·have:=yZ hl hp hv;rw[if_neg hx,if_neg hx,if_neg (by omega)]
theorem qB(n:Nat):prt n (List.range n)=fun b=>b:=by
 funext x;simp only[prt];split
 ·rename_i h;simp[pat,h]
 ·rfl
def oX(es:List Ky)(a b:Nat):Prop:=((a:Int),(b:Int))∈es\/((b:Int),(a:Int))∈es
theorem Lj{n:Nat}:∀(es:List Ky)(p:List Nat)(adj:Nat->Nat->Bool)(nxt:Nat->Nat->Int)(p':List Nat),p.length=n->(∀x∈p,x<n)->(∀b,prt n p (prt n p b)=prt n p b)->Fo n (prt n p) adj nxt->pZ n p es=some p' ->∃adj' nxt',Fo n (prt n p') adj' nxt'/\(∀a b,adj' a b=true↔adj a b=true\/oX es a b)/\rN n (prt n p')+es.length=rN n (prt n p)/\(∀b,prt n p' (prt n p' b)=prt n p' b)/\(∀b,b<n->prt n p' b<n)
 |[],p,adj,nxt,p',hl,hp,hi,hF,h=>by injection h with h;subst h;exact⟨adj,nxt,hF,fun a b=>by simp[oX],by simp,hi,fun b hb=>by simp only[prt,if_pos hb];exact yZ hl hp hb⟩
 |e::es,p,adj,nxt,p',hl,hp,hi,hF,h=>by
  rw[pZ] at h;cases hs:pY n p e with
  |none=>rw[hs] at h;cases h
  |some q=>
   rw[hs] at h;have h:pZ n q es=some p':=h;unfold pY at hs;split at hs
   ·rename_i hc;obtain⟨h1,h2,h3,h4,h5⟩:=hc;obtain⟨e1,e2⟩:=e;simp only at h1 h2 h3 h4 h5 hs;obtain⟨u,rfl⟩:∃u:Nat,e1=u:=⟨e1.toNat,by omega⟩;obtain⟨v,rfl⟩:∃v:Nat,e2=v:=⟨e2.toNat,by omega⟩;(have hu:u<n:=by omega);(have hv:v<n:=by omega);simp only[cM] at h5 hs;injection hs with hs;have hq:=Fu hl hp hu hv;rw[hs] at hq;(have hne:prt n p u≠prt n p v:=by simp only[prt,if_pos hu,if_pos hv];exact h5);have hF':=hF.join hu hv hne;rw[<-hq] at hF';(have hl':q.length=n:=by rw[<-hs];simp[hl]);have hp':∀x∈q,x<n:=by
     intro x hx;rw[<-hs] at hx;obtain⟨y,hy,rfl⟩:=aC.1 hx;split
     ·exact yZ hl hp hu
     ·exact hp y hy
    (have hi':∀b,prt n q (prt n q b)=prt n q b:=by rw[hq];exact sW hi u v);obtain⟨adj',nxt',A,B,C,D,E⟩:=Lj es q _ _ p' hl' hp' hi' hF' h;refine⟨adj',nxt',A,fun a b=>?_,?_,D,E⟩
    ·rw[B a b,kJ];simp only[oX,aN,cP];constructor
     ·rintro((h|⟨rfl,rfl⟩|⟨rfl,rfl⟩)|(h|h))
      ·exact Or.inl h
      ·exact Or.inr (Or.inl (Or.inl ⟨rfl,rfl⟩))
      ·exact Or.inr (Or.inr (Or.inl ⟨rfl,rfl⟩))
      ·exact Or.inr (Or.inl (Or.inr h))
      ·exact Or.inr (Or.inr (Or.inr h))
     ·rintro(h|(⟨h1,h2⟩|h)|(⟨h1,h2⟩|h))
      ·exact Or.inl (Or.inl h)
      ·exact Or.inl (Or.inr (Or.inl ⟨by omega,by omega⟩))
      ·exact Or.inr (Or.inl h)
      ·exact Or.inl (Or.inr (Or.inr ⟨by omega,by omega⟩))
      ·exact Or.inr (Or.inr h)
    ·have:=Bv hi (fun b hb=>by simp only[prt,if_pos hb];exact yZ hl hp hb) (u:=u) hv hne;rw[<-hq] at this;simp only[bA];omega
   ·cases hs
theorem Vv{n:Int}(h:jD n es=true):∃(nb:Nat)(adj:Nat->Nat->Bool)(nxt:Nat->Nat->Int),n=nb/\1<=nb/\nb<=8/\es.length+1=nb/\(∀a b,adj a b=true↔oX es a b)/\Nx adj (dom nb nxt)/\Nz nb adj (dom nb nxt)/\Rk adj (dom nb nxt) (pV nb (dom nb nxt)):=by
 simp only[jD,aP,decide_eq_true_eq] at h;obtain⟨⟨⟨h1,h2⟩,h3⟩,h4⟩:=h;obtain⟨nb,rfl⟩:∃k:Nat,n=k:=⟨n.toNat,by omega⟩;simp only[cM] at h4;cases hr:pZ nb (List.range nb) es with
 |none=>rw[hr] at h4;cases h4
 |some p'=>
  have hF:Fo nb (prt nb (List.range nb)) (fun _ _=>false) (fun _ _=>-1):=by rw[qB];exact Fo.init nb
  obtain⟨adj,nxt,A,B,C,D,E⟩:=Lj es (List.range nb) _ _ p' (by simp) (fun x hx=>by simpa using hx) (fun b=>by rw[qB]) hF hr;rw[qB,By] at C;have one:=Fw D E (by omega);exact⟨nb,adj,nxt,rfl,by omega,by omega,by omega,fun a b=>by rw[B a b];simp,A.nx one,A.nz one,A.rk one⟩
def inR(nb:Nat)(e:Ky):Bool:=decide (0<=e.1)&&decide (0<=e.2)&&decide (e.1<nb)&&decide (e.2<nb)
def bat(l:List Bool)(i:Nat):Bool:=l.getD i false
def oM(S:List Bool)(e:Ky):List Bool:=(S.set e.1.toNat (bat S e.1.toNat||bat S e.2.toNat)).set e.2.toNat (bat S e.1.toNat||bat S e.2.toNat)
def iR(es:List Ky)(S:List Bool):List Bool:=es.foldl oM S
def lL(es:List Ky)(S:List Bool):Nat->List Bool
 |0=>S
 |n+1=>iR es (lL es S n)
def kP(nb:Nat):List Bool:=(List.replicate nb false).set 0 true
def yT(n:Int)(es:List Ky):Bool:=decide (1<=n)&&decide (n<=8)&&decide ((es.length:Int)=n-1)&&es.all (inR n.toNat)&&(lL es (kP n.toNat) n.toNat).all id
theorem Na{S:List Bool}{i:Nat}{x:Bool}(hi:i<S.length):bat (S.set i x) j=if i=j then x else bat S j:=by
 unfold bat;rw[aI,dV,aI];by_cases e:i=j
 ·subst e;simp[hi]
 ·rw[if_neg e,if_neg e]
theorem qA(S:List Bool)(e:Ky):(oM S e).length=S.length:=by simp[oM]
theorem qP:∀(es:List Ky)(S:List Bool),(iR es S).length=S.length
 |[],_=>rfl
 |e::es,S=>by show(iR es (oM S e)).length=_;rw[qP es,qA]
theorem mI(es:List Ky)(S:List Bool):∀n,(lL es S n).length=S.length
 |0=>rfl
 |n+1=>by rw[lL,qP,mI es S n]
theorem pF{nb:Nat}{e:Ky}:inR nb e=true↔∃u v:Nat,e=((u:Int),(v:Int))/\u<nb/\v<nb:=by
 obtain⟨a,b⟩:=e;simp only[inR,aP,decide_eq_true_eq];constructor
 ·rintro⟨⟨⟨h1,h2⟩,h3⟩,h4⟩;exact⟨a.toNat,b.toNat,by rw[Int.toNat_of_nonneg h1,Int.toNat_of_nonneg h2],by omega,by omega⟩
 ·rintro⟨u,v,h,h1,h2⟩;injection h with ha hb;subst ha hb;exact⟨⟨⟨by omega,by omega⟩,by omega⟩,by omega⟩
theorem uH{S:List Bool}{v:Nat}(hu:u<S.length)(hv:v<S.length):bat (oM S ((u:Int),(v:Int))) j=if v=j\/u=j then(bat S u||bat S v) else bat S j:=by
 unfold oM;simp only[cM];rw[Na (by simpa using hv),Na hu];by_cases h1:v=j
 ·simp[h1]
 ·by_cases h2:u=j<;>simp[h1,h2]
def leB(S S':List Bool):Prop:=∀i,bat S i=true->bat S' i=true
theorem leB.trans{S S1 S2:List Bool}(h:leB S S1)(k:leB S1 S2):leB S S2:=fun i hi=>k i (h i hi)
theorem Fj{nb:Nat}{S:List Bool}{e:Ky}(hl:S.length=nb)(he:inR nb e=true):leB S (oM S e):=by
 obtain⟨u,v,rfl,hu,hv⟩:=pF.1 he;intro i hi;rw[uH (by omega) (by omega)];split
 ·rename_i h;rcases h with rfl|rfl<;>simp[hi]
 ·exact hi
theorem sP{nb:Nat}:∀(es:List Ky)(S:List Bool),S.length=nb->(∀e∈es,inR nb e=true)->leB S (iR es S)
 |[],_,_,_=>fun _ h=>h
 |e::es,S,hl,he=>(Fj hl (he e bC)).trans (sP es (oM S e) (by rw[qA,hl]) (fun x hx=>he x (bE _ hx)))
theorem Ta{S S':List Bool}(hl:S.length=S'.length)(h:leB S S')(k:leB S' S):S=S':=by
 apply List.ext_getElem hl;intro i h1 h2;have e:∀(l:List Bool)(hi:i<l.length),bat l i=l[i]:=fun l hi=>by simp[bat,hi]
 have a:=h i;have b:=k i;rw[e S h1,e S' h2] at a b;cases hx:S[i]<;>cases hy:S'[i]<;>simp_all
theorem Re{nb:Nat}:∀(es:List Ky)(S:List Bool),S.length=nb->(∀e∈es,inR nb e=true)->iR es S=S->∀e∈es,bat S e.1.toNat=bat S e.2.toNat
 |[],_,_,_,_=>fun e he=>by cases he
 |e::es,S,hl,he,hs=>by
  have h1:=he e bC;have h2:∀x∈es,inR nb x=true:=fun x hx=>he x (bE _ hx);have hs':iR es (oM S e)=S:=hs;have hlE:(oM S e).length=nb:=by rw[qA,hl]
  have le1:=Fj hl h1;have le2:=sP es (oM S e) hlE h2;rw[hs'] at le2;have eS:=Ta (by rw[qA]) le1 le2;intro x hx;rcases aN.1 hx with rfl|hx
  ·obtain⟨u,v,rfl,hu,hv⟩:=pF.1 h1;have a:=uH (S:=S) (u:=u) (v:=v) (j:=u) (by omega) (by omega);have b:=uH (S:=S) (u:=u) (v:=v) (j:=v) (by omega) (by omega);rw[<-eS,if_pos (Or.inr rfl)] at a;rw[<-eS,if_pos (Or.inl rfl)] at b;simp only[cM];exact a.trans b.symm
  ·rw[<-eS] at hs';exact Re es S hl h2 hs' x hx
def cnt(S:List Bool):Nat:=(S.filter id).length
theorem Uo:∀(S S':List Bool),S.length=S'.length->leB S S'->S≠S'->cnt S<cnt S'
 |[],[],_,_,h=>absurd rfl h
 |[],_::_,hl,_,_=>by simp at hl
 |_::_,[],hl,_,_=>by simp at hl
 |a::S,b::S',hl,h,hne=>by
  have ht:leB S S':=fun i hi=>by have:=h (i+1);simp[bat] at this hi ⊢;exact this hi
  have h0:a=true->b=true:=fun e=>by have:=h 0;simp[bat] at this;exact this e
  have hl':S.length=S'.length:=by simpa using hl
  have le:S=S'\/cnt S<cnt S':=by
   by_cases e:S=S'
   ·exact Or.inl e
   ·exact Or.inr (Uo S S' hl' ht e)
  cases a<;>cases b
  ·rcases le with e|e
   ·exact absurd (by rw[e]) hne
   ·simpa[cnt] using e
  ·rcases le with e|e
   ·subst e;simp[cnt]
   ·simp only[cnt,eW,id] at e ⊢;simp;omega
  ·exact absurd (h0 rfl) (by simp)
  ·rcases le with e|e
   ·exact absurd (by rw[e]) hne
   ·simp only[cnt,eW,id] at e ⊢;simp;omega
theorem aAD(S:List Bool):cnt S<=S.length:=aX _ _
theorem wQ{nb:Nat}{es:List Ky}{S:List Bool}(hl:S.length=nb)(he:∀e∈es,inR nb e=true)(h1:1<=cnt S):∀n,iR es (lL es S n)=lL es S n\/n+1<=cnt (lL es S n)
 |0=>Or.inr h1
 |n+1=>by
  rcases wQ hl he h1 n with h|h
  ·left;show iR es (iR es (lL es S n))=iR es (lL es S n);rw[h,h]
  ·by_cases e:lL es S n=iR es (lL es S n)
   ·left;show iR es (iR es (lL es S n))=iR es (lL es S n);rw[<-e,<-e]
   ·right;(have hln:(lL es S n).length=nb:=by rw[mI,hl]);have:=Uo _ _ (by rw[qP]) (sP es _ hln he) e;show n+1+1<=cnt (iR es (lL es S n));omega
theorem mB(nb:Nat):(kP nb).length=nb:=by simp[kP]
theorem Nq{nb:Nat}(h:1<=nb):1<=cnt (kP nb):=by obtain⟨k,rfl⟩:∃k,nb=k+1:=⟨nb-1,by omega⟩;simp[kP,cnt,List.replicate_succ]
theorem Fi{nb:Nat}(hn:1<=nb)(he:∀e∈es,inR nb e=true):∀e∈es,bat (lL es (kP nb) nb) e.1.toNat=bat (lL es (kP nb) nb) e.2.toNat:=by
 rcases wQ (mB nb) he (Nq hn) nb with h|h
 ·exact Re es _ (by rw[mI,mB]) he h
 ·have:=aAD (lL es (kP nb) nb);rw[mI,mB] at this;omega
theorem Bt{nb:Nat}{es:List Ky}(hn:1<=nb)(he:∀e∈es,inR nb e=true):∀n,bat (lL es (kP nb) n) 0=true
 |0=>by obtain⟨k,rfl⟩:∃k,nb=k+1:=⟨nb-1,by omega⟩;simp[lL,kP,bat,List.replicate_succ]
 |n+1=>sP es _ (by rw[mI,mB]) he 0 (Bt hn he n)
def fP(part:Nat->Nat):List Ky->Nat->Nat
 |[]=>part
 |e::es=>fP (jY part e.1.toNat e.2.toNat) es
def tQ(part:Nat->Nat):List Ky->Prop
 |[]=>True
 |e::es=>part e.1.toNat≠part e.2.toNat/\tQ (jY part e.1.toNat e.2.toNat) es
theorem Gn{v a b:Nat}(h:part a=part b):jY part u v a=jY part u v b:=by unfold jY;rw[h]
theorem Yx:∀(es:List Ky)(part:Nat->Nat){a b:Nat},part a=part b->fP part es a=fP part es b
 |[],_,_,_,h=>h
 |_::es,_,_,_,h=>Yx es _ (Gn h)
theorem wE(part:Nat->Nat)(u v:Nat):jY part u v u=jY part u v v:=by
 by_cases h:part u=part v
 ·rw[kY h,kY rfl]
 ·rw[kI h,kY rfl]
theorem Mt:∀(es:List Ky)(part:Nat->Nat),∀e∈es,fP part es e.1.toNat=fP part es e.2.toNat
 |[],_=>fun e he=>by cases he
 |x::es,part=>fun e he=>by
  rcases aN.1 he with rfl|he
  ·exact Yx es _ (wE part _ _)
  ·exact Mt es _ e he
theorem Jw{v:Nat}(h:part u=part v):jY part u v=part:=by
 funext x;by_cases hx:part x=part v
 ·rw[kY hx,h,hx]
 ·rw[kI hx]
theorem Gm{nb:Nat}(hl:∀b,b<nb->part b<nb){v:Nat}(hu:u<nb):∀b,b<nb->jY part u v b<nb:=fun b hb=>by
 unfold jY;split
 ·exact hl u hu
 ·exact hl b hb
theorem Ln{nb:Nat}:∀(es:List Ky)(part:Nat->Nat),(∀b,part (part b)=part b)->(∀b,b<nb->part b<nb)->(∀e∈es,inR nb e=true)->(tQ part es->rN nb (fP part es)+es.length=rN nb part)/\(¬tQ part es->rN nb part+1<=rN nb (fP part es)+es.length)/\rN nb part<=rN nb (fP part es)+es.length
 |[],part,_,_,_=>⟨fun _=>rfl,fun h=>absurd trivial h,lZ⟩
 |e::es,part,hi,hl,he=>by
  obtain⟨u,v,rfl,hu,hv⟩:=pF.1 (he e bC);have he':∀x∈es,inR nb x=true:=fun x hx=>he x (bE _ hx);obtain⟨A,B,D⟩:=Ln es (jY part u v) (sW hi u v) (Gm hl hu) he';simp only[fP,tQ,cM,bA];by_cases hp:part u=part v
  ·have e2:=Jw hp;rw[e2] at A B D ⊢;exact⟨fun h=>absurd hp h.1,fun _=>by omega,by omega⟩
  ·have r:=Bv hi hl (u:=u) hv hp;refine⟨fun h=>?_,fun h=>?_,by omega⟩
   ·have:=A h.2;omega
   ·have:=B (fun g=>h ⟨hp,g⟩);omega
theorem Mr{nb:Nat}{S:Nat->Bool}:∀(es:List Ky)(part:Nat->Nat),(∀b,part (part b)=part b)->(∀e∈es,inR nb e=true)->(∀e∈es,S e.1.toNat=S e.2.toNat)->(∀a b,part a=part b->S a=S b)->∀a b,fP part es a=fP part es b->S a=S b
 |[],_,_,_,_,h=>h
 |e::es,part,hi,he,hS,h=>by
  refine Mr es _ (sW hi _ _) (fun x hx=>he x (bE _ hx)) (fun x hx=>hS x (bE _ hx)) (fun a b hab=>?_);have h0:=hS e bC;by_cases ha:part a=part e.2.toNat
  ·have ea:=h _ _ ha;by_cases hb:part b=part e.2.toNat
   ·rw[ea,h _ _ hb]
   ·rw[kY ha,kI hb] at hab;rw[ea,<-h0,h _ _ hab]
  ·by_cases hb:part b=part e.2.toNat
   ·rw[kI ha,kY hb] at hab;rw[h _ _ hab,h0,h _ _ hb]
   ·rw[kI ha,kI hb] at hab;exact h _ _ hab
theorem Rq{nb:Nat}{P:Nat->Nat}{c:Nat}(h:∀b,b<nb->P b=c):rN nb P<=1:=by
 have:∀n,n<=nb->sm n (fun b=>if P b=b then 1 else 0)<=if c<n then 1 else 0:=by
  intro n
  induction n with
  |zero=>intro _;simp[sm]
  |succ n ih=>
   intro hn;have:=ih (by omega);have hb:=h n (by omega);simp only[sm];by_cases e:P n=n
   ·(have hc:c=n:=by omega);rw[if_pos e,if_pos (by omega)];rw[if_neg (by omega)] at this;omega
   ·rw[if_neg e];by_cases h2:c<n
    ·rw[if_pos (by omega)];rw[if_pos h2] at this;omega
    ·rw[if_neg h2] at this;omega
 have:=this nb lZ;unfold rN;split at this<;>omega
theorem yJ{n:Nat}:∀(es:List Ky)(p:List Nat),p.length=n->(∀x∈p,x<n)->((pZ n p es).isSome=true↔(∀e∈es,inR n e=true)/\tQ (prt n p) es)
 |[],p,_,_=>by simp[pZ,tQ]
 |e::es,p,hl,hp=>by
  rw[pZ];by_cases hc:0<=e.1/\0<=e.2/\e.1<n/\e.2<n
  ·obtain⟨h1,h2,h3,h4⟩:=hc;(have hin:inR n e=true:=by simp[inR,h1,h2,h3,h4]);obtain⟨u,v,rfl,hu,hv⟩:=pF.1 hin;have hq:=Fu hl hp hu hv;have e1:prt n p u=pat p u:=if_pos hu;have e2:prt n p v=pat p v:=if_pos hv;simp only[tQ,cM,aN,forall_eq_or_imp];by_cases hne:pat p u=pat p v
   ·(have:pY n p ((u:Int),(v:Int))=none:=by simp[pY,hne]);rw[this];simp[e1,e2,hne]
   ·(have hs:pY n p ((u:Int),(v:Int))=some (p.map fun x=>if x=pat p v then pat p u else x):=by unfold pY;rw[if_pos ⟨h1,h2,h3,h4,by simpa using hne⟩];simp);rw[hs];show(pZ n (p.map fun x=>if x=pat p v then pat p u else x) es).isSome=true↔_;rw[yJ es _ (by simp[hl]) (fun x hx=>by
     obtain⟨y,hy,rfl⟩:=aC.1 hx;split
     ·exact yZ hl hp hu
     ·exact hp y hy),hq,e1,e2]
    constructor
    ·rintro⟨a,b⟩;exact⟨⟨hin,a⟩,hne,b⟩
    ·rintro⟨⟨_,a⟩,_,b⟩;exact⟨a,b⟩
  ·(have:pY n p e=none:=by unfold pY;rw[if_neg (fun h=>hc ⟨h.1,h.2.1,h.2.2.1,h.2.2.2.1⟩)]);rw[this];constructor
   ·intro h;cases h
   ·rintro⟨a,_⟩;have:=a e bC;obtain⟨u,v,rfl,hu,hv⟩:=pF.1 this;exact absurd ⟨by simp,by simp,by simp;omega,by simp;omega⟩ hc
theorem Em(S:List Bool):S.all id=true↔∀i,i<S.length->bat S i=true:=by
 rw[cJ];constructor
 ·intro h i hi;have:=h S[i] (eG _);simpa[bat,hi] using this
 ·intro h x hx;obtain⟨i,hi,rfl⟩:=bG hx;simpa[bat,hi] using h i hi
theorem sQ(n:Int)(es:List Ky):yT n es=jD n es:=by
 unfold yT jD;by_cases h:1<=n/\n<=8/\(es.length:Int)=n-1
 ·obtain⟨h1,h2,h3⟩:=h;obtain⟨nb,rfl⟩:∃k:Nat,n=k:=⟨n.toNat,by omega⟩;simp only[h1,h2,h3,cM,decide_true,Bool.and_self,eD];rw[eL,yJ es (List.range nb) (by simp) (fun x hx=>by simpa using hx),qB,aP,cJ];have hn:1<=nb:=by omega
  refine and_congr_right fun he=>?_;obtain⟨A,B,_⟩:=Ln (nb:=nb) es (fun b=>b) (fun _=>rfl) (fun _ h=>h) he;rw[By] at A B;rw[Em,mI,mB];constructor
  ·intro hall;refine cO fun hg=>?_;have hB:=B hg;have inv:∀k,∀i,i<nb->bat (lL es (kP nb) k) i=true->fP (fun b=>b) es i=fP (fun b=>b) es 0:=by
    have step:∀(l:List Ky)(S:List Bool),S.length=nb->(∀e∈l,e∈es)->(∀i,i<nb->bat S i=true->fP (fun b=>b) es i=fP (fun b=>b) es 0)->∀i,i<nb->bat (iR l S) i=true->fP (fun b=>b) es i=fP (fun b=>b) es 0:=by
     intro l
     induction l with
     |nil=>intro S _ _ h;exact h
     |cons e l ih=>
      intro S hl hm h;refine ih (oM S e) (by rw[qA,hl]) (fun x hx=>hm x (bE _ hx)) ?_;intro i hi hb;have hme:=hm e bC;have hed:=Mt es (fun b=>b) e hme;obtain⟨u,v,rfl,hu,hv⟩:=pF.1 (he e hme);simp only[cM] at hed;rw[uH (by omega) (by omega)] at hb;split at hb
      ·rename_i hc;have huv:fP (fun b=>b) es u=fP (fun b=>b) es 0:=by
        rcases Bool.or_eq_true_iff.1 hb with hb|hb
        ·exact h u hu hb
        ·rw[hed];exact h v hv hb
       rcases hc with rfl|rfl
       ·rw[<-hed];exact huv
       ·exact huv
      ·exact h i hi hb
    intro k
    induction k with
    |zero=>
     intro i hi hb;obtain⟨m,rfl⟩:∃m,nb=m+1:=⟨nb-1,by omega⟩;cases i with
     |zero=>rfl
     |succ i=>simp[lL,kP,bat,List.replicate_succ,List.getElem?_replicate] at hb;split at hb<;>simp_all
    |succ k ih=>exact step es _ (by rw[mI,mB]) (fun _ h=>h) ih
   have:=Rq (fun b hb=>inv nb b hb (hall b hb));omega
  ·intro hg i hi;have hA:=A hg;have hi0:∀b,fP (fun b=>b) es (fP (fun b=>b) es b)=fP (fun b=>b) es b/\(b<nb->fP (fun b=>b) es b<nb):=by
    have:∀(l:List Ky)(part:Nat->Nat),(∀e∈l,inR nb e=true)->(∀b,part (part b)=part b)->(∀b,b<nb->part b<nb)->∀b,fP part l (fP part l b)=fP part l b/\(b<nb->fP part l b<nb):=by
     intro l
     induction l with
     |nil=>intro part _ h1 h2 b;exact⟨h1 b,h2 b⟩
     |cons e l ih=>intro part hin h1 h2;obtain⟨u,v,rfl,hu,hv⟩:=pF.1 (hin e bC);exact ih _ (fun x hx=>hin x (bE _ hx)) (sW h1 _ _) (Gm h2 (by simpa using hu))
    exact this es _ he (fun _=>rfl) (fun _ h=>h)
   have one:=Fw (fun b=>(hi0 b).1) (fun b=>(hi0 b).2) (by omega) i 0 hi (by omega);have:=Mr (nb:=nb) (S:=bat (lL es (kP nb) nb)) es (fun b=>b) (fun _=>rfl) he (Fi hn he) (fun a b h=>by rw[h]) i 0 one;rw[this];exact Bt hn he nb
 ·have:(decide (1<=n)&&decide (n<=8)&&decide ((es.length:Int)=n-1))=false:=by
   simp only[eK,decide_eq_false_iff_not];by_cases h1:1<=n
   ·by_cases h2:n<=8
    ·exact Or.inr fun h3=>h ⟨h1,h2,h3⟩
    ·exact Or.inl (Or.inr h2)
   ·exact Or.inl (Or.inl h1)
  rw[this];rfl
end Go.Proofs.YtecnfgikbmcgoabGreat
