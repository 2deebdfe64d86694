import Derived.Test.YtecnfgikbmcgoabGreatG3
set_option maxHeartbeats 8000000
set_option maxRecDepth 100000
namespace Go.Proofs.YtecnfgikbmcgoabGreat
open Go.Proofs.Tryz
open Go.RowKit
variable {BB b1 b2 base:Nat}{T T':TypeId}{cs:Array Value}{mk:List Value}{v' x:Value}{w wa wb wn wr:World}
def rep(k:Nat)(mk:List Value):List Value:=(List.replicate k mk).flatten
theorem kM(k:Nat)(mk:List Value):(rep k mk).length=k*mk.length:=by simp[rep]
theorem mZ(a b:Nat)(mk:List Value):rep (a+b) mk=rep a mk++rep b mk:=by simp only[rep];rw[<-List.replicate_append_replicate,List.flatten_append]
theorem uK(mk:List Value):rep 1 mk=mk:=by simp[rep]
theorem Wg{k:Nat}{u:Value}(h:u∈rep k mk):u∈mk:=by simp only[rep,List.mem_flatten,List.mem_replicate] at h;obtain⟨l,⟨_,rfl⟩,hu⟩:=h;exact hu
theorem Fl{a b:Nat}(h:a<=b)(mk:List Value):(rep b mk).take (a*mk.length)=rep a mk:=by obtain⟨c,rfl⟩:=Nat.exists_eq_add_of_le h;rw[mZ,<-kM,fK]
theorem vV{e:TypeId}{size:Nat}{v:Value}{n:Nat}{xs:List Value}(h:w.ownsRow b2 e size v n xs)(hb:base<=b2):w.ownsRow base e size v n xs:=by
 obtain⟨h1,h2⟩:=h;refine⟨h1,?_⟩;rcases h2 with h2|⟨b,cap,cur,hv,hl,r⟩
 ·exact Or.inl h2
 ·exact Or.inr ⟨b,cap,cur,hv,by omega,r⟩
section
variable {P:Program}(w:World)
theorem yP(t ty:TypeId)(base:Nat)(e:TypeId)(i:TypeInfo)(z:Value)(bytes:Nat)(mk:List Value)(ht:P.underlying t=some (.slice e))(hi:P.info? e=some i)(hz:i.zero=some z)(hsize:i.size=mk.length)(hby:i.bytes=bytes)(hzs:z.cells.size=mk.length)(hsz:0<mk.length)(v:Value)(n:Nat)(hown:w.ownsRow base e mk.length v n (rep n mk))(ad:Addr)(m c:Nat)(hnews:∀j u,(rep m mk)[j]?=some u->w.cell? (ad.add j)=some u)(h1:∀u∈mk,u.oneCell'=true)(h63:n+m<=maxLen)(hbytes:(n+m)*bytes<=140737488355328)(hbase:base<=w.heap.size):∃v' w',(Builtin.append_ #[t,t] ty #[v,.slice (some ad) m c]).run P w=.ok v' w'/\w'.ownsRow base e mk.length v' (n+m) (rep (n+m) mk)/\w.grownBy w' v.ownBlock /\(∀u k,w.ownsRow base e mk.length u k (rep k mk)->w'.ownsRow base e mk.length u k (rep k mk))/\(∀q,v'.ownBlock=some q->v.ownBlock=some q\/w.heap.size<=q):=by
 have h1':∀u∈rep m mk,u.oneCell'=true:=fun u hu=>h1 u (Wg hu);rcases hown.2 with⟨hv,hn⟩|⟨g,cap,cur,hv,hb,hh,hnc,hcm,hcs,htk⟩
 ·subst hv;obtain⟨v',w',hr,h2,h3,_⟩:=run_append_own (P:=P) w w.heap.size t ty e i z mk.length bytes ht hi hz hsize hby hzs hsz _ n _ ⟨hown.1,Or.inl ⟨rfl,hn⟩⟩ ad m c (rep m mk) (kM _ _) hnews h1' h63 hbytes lZ;refine⟨v',w',hr,by rw[mZ];exact vV h2 hbase,h3,fun u k hu=>jI hu h3 (fun k _=>by simp[Value.ownBlock]),fun q hq=>Or.inr (iC h2 q hq)⟩
 ·subst hv;by_cases hroom:n+m<=cap
  ·(have hfit:n*mk.length+(rep m mk).length<=cur.size:=by rw[kM,hcs,<-eB];exact bJ _ hroom);have hr:=run_append_room (P:=P) w t ty e i ht hi g n cap cur hh ad m c (rep m mk) (by rw[hsize];exact kM _ _) hnews h1' hroom (by rw[hsize];exact hfit);rw[hsize] at hr;have hcur:cur.toList.take (n*mk.length)++rep m mk=rep (n+m) mk:=by rw[htk,mZ]
   (have hlen:(rep (n+m) mk).length=n*mk.length+(rep m mk).length:=by rw[kM,kM,eB]);refine⟨_,_,hr,?_,?_,fun u k hu=>?_,fun q hq=>Or.inl hq⟩
   ·refine⟨kM _ _,Or.inr ⟨g,cap,_,rfl,hb,setRow_heap w g cur _ e _ hh,hroom,hcm,?_,?_⟩⟩
    ·simp only[cS,aG,dQ,dY,dO];omega
    ·rw[hcur,<-kM];exact fK
   ·exact⟨rfl,rfl,rfl,by simp,fun k _ hk=>setRow_other w g k _ (fun e=>hk (by simp[e,Value.ownBlock]))⟩
   ·rcases hu.2 with⟨hv,hk0⟩|⟨g',cap',cur',hv,hb',hh',hkc,hkm,hcs',htk'⟩
    ·exact⟨hu.1,Or.inl ⟨hv,hk0⟩⟩
    ·by_cases hg:g'=g
     ·subst hg;rw[hh] at hh';injection hh' with hh';injection hh' with hh' _;subst hh';refine⟨hu.1,Or.inr ⟨g',cap',_,hv,hb',setRow_heap w g' cur _ e _ hh,hkc,hkm,?_,?_⟩⟩
      ·simp only[cS,aG,dQ,dY,dO];omega
      ·rw[hcur];by_cases hk:k<=n+m
       ·(have hle:k*mk.length<=(rep (n+m) mk).length:=by rw[kM];exact bJ _ hk);show((rep (n+m) mk++_).toArray.toList).take _=_;rw[List.toList_toArray,List.take_append_of_le_length hle,Fl hk]
       ·(have hc2:cur.toList.take ((n+m)*mk.length)=rep (n+m) mk:=by rw[<-Fl (show n+m<=k by omega),<-htk',List.take_take,Nat.min_eq_left (bJ _ (by omega))]);have hc3:rep (n+m) mk++cur.toList.drop (n*mk.length+(rep m mk).length)=cur.toList:=by rw[<-hlen,kM,<-hc2,dZ]
        show((rep (n+m) mk++_).toArray.toList).take _=_;rw[List.toList_toArray,hc3,htk']
     ·refine⟨hu.1,Or.inr ⟨g',cap',cur',hv,hb',?_,hkc,hkm,hcs',htk'⟩⟩;rw[<-hh'];exact setRow_other w g g' _ hg
  ·obtain⟨v',w',hr,h2,h3⟩:=run_append_arg_grows (P:=P) w t ty e i z mk.length bytes ht hi hz hsize hby hzs hsz ⟨g,0,none⟩ n cap (rep n mk) hown.1 (fun j u hj=>by
     (have hl:j<n*mk.length:=by rw[<-kM];exact(bN.1 hj).1);rw[Addr.add_lit,cE,aH hown j hl];exact hj) ad m c (rep m mk) (kM _ _) hnews (by omega) h63 hbytes
   refine⟨v',w',hr,by rw[mZ];exact vV h2 hbase,⟨h3.os,h3.tape,h3.output,h3.size,fun k hk _=>h3.block k hk (by simp)⟩,fun u k hu=>jI hu h3 (fun k _=>by simp),fun q hq=>Or.inr (iC h2 q hq)⟩
theorem xC(t ty:TypeId)(base:Nat)(e:TypeId)(i:TypeInfo)(z:Value)(size bytes:Nat)(ht:P.underlying t=some (.slice e))(hi:P.info? e=some i)(hz:i.zero=some z)(hsize:i.size=size)(hby:i.bytes=bytes)(hzs:z.cells.size=size)(hsz:0<size)(v:Value)(n:Nat)(xs:List Value)(hown:w.ownsRow base e size v n xs)(ad:Addr)(m c:Nat)(news:List Value)(hl:news.length=m*size)(hnews:∀j u,news[j]?=some u->w.cell? (ad.add j)=some u)(h1:∀u∈news,u.oneCell'=true)(h63:n+m<=maxLen)(hbytes:(n+m)*bytes<=140737488355328)(hbase:base<=w.heap.size):∃v' w',(Builtin.append_ #[t,t] ty #[v,.slice (some ad) m c]).run P w=.ok v' w'/\w'.ownsRow base e size v' (n+m) (xs++news)/\w.grownBy w' v.ownBlock/\w'.ownsRow base e size v n xs:=by
 rcases hown.2 with⟨hv,hn⟩|⟨g,cap,cur,hv,hb,hh,hnc,hcm,hcs,htk⟩
 ·subst hv;obtain⟨v',w',hr,h2,h3,_⟩:=run_append_own (P:=P) w base t ty e i z size bytes ht hi hz hsize hby hzs hsz _ n _ hown ad m c news hl hnews h1 h63 hbytes hbase;exact⟨v',w',hr,h2,h3,jI hown h3 (fun k _=>by simp[Value.ownBlock])⟩
 ·subst hv;by_cases hroom:n+m<=cap
  ·obtain⟨w',hr,h2,h3⟩:=run_append_fits (P:=P) w base t ty e i size ht hi hsize g n cap _ hown ad m c news hl hnews h1 hroom;refine⟨_,w',hr,h2,h3,hown.1,?_⟩;rcases h2.2 with⟨hv,_⟩|⟨g',cap',cur',hv,hb',hh',_,hm',hs',ht'⟩
   ·cases hv
   ·simp only[Value.slice.injEq,dN,Addr.mk.injEq,and_true,true_and] at hv;obtain⟨rfl,rfl⟩:=hv;refine Or.inr ⟨g,cap,cur',rfl,hb',hh',hnc,hm',hs',?_⟩;(have h5:(cur'.toList.take ((n+m)*size)).take (n*size)=(xs++news).take (n*size):=by rw[ht']);rw[List.take_take,Nat.min_eq_left (bJ _ (by omega)),<-hown.1,fK,hown.1] at h5;exact h5
  ·obtain⟨v',w',hr,h2,h3⟩:=run_append_arg_grows (P:=P) w t ty e i z size bytes ht hi hz hsize hby hzs hsz ⟨g,0,none⟩ n cap xs hown.1 (fun j u hj=>by
     (have hl':j<n*size:=by rw[<-hown.1];exact(bN.1 hj).1);rw[Addr.add_lit,cE,aH hown j hl'];exact hj) ad m c news hl hnews (by omega) h63 hbytes
   exact⟨v',w',hr,vV h2 hbase,⟨h3.os,h3.tape,h3.output,h3.size,fun k hk _=>h3.block k hk (by simp)⟩,jI hown h3 (fun k _=>by simp)⟩
theorem iL{o:Oper}{a:Act}{K:Act->World->Prop}{Q:Exit->Act->World->Prop}(s x:Operand)(t:TypeId)(ho:o.op=.call { callee:=.builtin .append,args:=#[s,x],argTypes:=#[t,t] })(base:Nat)(e:TypeId)(i:TypeInfo)(z:Value)(bytes:Nat)(mk:List Value)(ht:P.underlying t=some (.slice e))(hi:P.info? e=some i)(hz:i.zero=some z)(hsize:i.size=mk.length)(hby:i.bytes=bytes)(hzs:z.cells.size=mk.length)(hsz:0<mk.length)(v:Value)(n:Nat)(hs:a.eval s=v)(hown:w.ownsRow base e mk.length v n (rep n mk))(ad:Addr)(m c:Nat)(hx:a.eval x=.slice (some ad) m c)(hnews:∀j u,(rep m mk)[j]?=some u->w.cell? (ad.add j)=some u)(h1:∀u∈mk,u.oneCell'=true)(h63:n+m<=maxLen)(hbytes:(n+m)*bytes<=140737488355328)(hbase:base<=w.heap.size)(h:∀v' w',w'.ownsRow base e mk.length v' (n+m) (rep (n+m) mk)->w.grownBy w' v.ownBlock->(∀u k,w.ownsRow base e mk.length u k (rep k mk)->w'.ownsRow base e mk.length u k (rep k mk))->(∀q,v'.ownBlock=some q->v.ownBlock=some q\/w.heap.size<=q)->K (a.put o.dst v') w'):o.wp P a w K Q:=by obtain⟨v',w',hr,h2,h3,h4,h5⟩:=yP (P:=P) w t o.type base e i z bytes mk ht hi hz hsize hby hzs hsz v n hown ad m c hnews h1 h63 hbytes hbase;unfold Oper.wp execOp;simp only[ho,resolve,invoke,builtin,Sem.run_bind,Sem.run_pure,cY,List.map_toArray,bH,dI,hs,hx,hr];exact h v' w' h2 h3 h4 h5
end
structure Kv(ts:List TypeId)(own:Option Nat)(base:Nat)(w w':World):Prop where
 be:Below base w w'
 kp:∀(k:Nat)(cs:Array Value)(t:TypeId)(fr:Nat×Nat),w.heap[k]?=some (.cells cs t fr)->¬t∈ts->own≠some k->w'.heap[k]?=some (.cells cs t fr)
theorem Kv.trans{ts:List TypeId}{own:Option Nat}{a b c:World}(h:Kv ts own base a b)(k:Kv ts own base b c):Kv ts own base a c:=⟨Below.trans h.be k.be,fun i cs t fr hi ht ho=>k.kp i cs t fr (h.kp i cs t fr hi ht ho) ht ho⟩
theorem Kv.gr{ts:List TypeId}{own:Option Nat}{a b:World}(g:Gr a b)(hb:base<=a.heap.size):Kv ts own base a b:=⟨Below.mono g hb,fun _ _ _ _ hi _ _=>gK g hi⟩
theorem Kv.wide{ts us:List TypeId}{own:Option Nat}{a b:World}(h:Kv ts own base a b)(hs:∀t∈ts,t∈us):Kv us own base a b:=⟨h.be,fun i cs t fr hi ht ho=>h.kp i cs t fr hi (fun hm=>ht (hs t hm)) ho⟩
theorem Kv.size{ts:List TypeId}{own:Option Nat}{a b:World}(h:Kv ts own base a b):a.heap.size<=b.heap.size:=h.be.size
theorem Kv.owns{ts:List TypeId}{own:Option Nat}{w':World}{e:TypeId}{size:Nat}{v:Value}{n:Nat}{xs:List Value}(k:Kv ts own base w w')(h:w.ownsRow b2 e size v n xs)(he:¬e∈ts)(ho:∀q,v.ownBlock=some q->own≠some q):w'.ownsRow b2 e size v n xs:=by
 obtain⟨h1,h2⟩:=h;refine⟨h1,?_⟩;rcases h2 with h2|⟨b,cap,cur,hv,hb,hh,r⟩
 ·exact Or.inl h2
 ·exact Or.inr ⟨b,cap,cur,hv,hb,k.kp _ _ _ _ hh he (ho b (by rw[hv];rfl)),r⟩
structure KI(T TS:TypeId)(own:Option Nat)(base:Nat)(w wr:World)(mk:List Value)(n:Nat)(v vi:Value)(ls:List Value)(us:List (Value×Nat)):Prop where
 fr:Kv [TS] own 0 w wr
 le:base<=wr.heap.size
 nl:∀z,z<w.heap.size->own≠some z->vi.ownBlock≠some z->wr.heap[z]?=w.heap[z]?
 v0:wr.ownsRow base T mk.length v n (rep n mk)
 vi:wr.ownsRow 0 TS 1 vi ls.length ls
 us:∀p∈us,wr.ownsRow base T mk.length p.1 p.2 (rep p.2 mk)
theorem KI.gr{TS:TypeId}{own:Option Nat}{n:Nat}{v vi:Value}{ls:List Value}{us:List (Value×Nat)}(h:KI T TS own base w wr mk n v vi ls us)(g:Gr wr wn):KI T TS own base w wn mk n v vi ls us:=⟨h.fr.trans (Kv.gr g zZ),aA h.le g.size,fun z hz a b=>(g.block z (aF hz h.fr.size)).trans (h.nl z hz a b),gO h.v0 g,gO h.vi g,fun p hp=>gO (h.us p hp) g⟩
theorem KI.drew{TS:TypeId}{own:Option Nat}{n:Nat}{v vi:Value}{ls:List Value}{us:List (Value×Nat)}(h:KI T TS own base w wr mk n v vi ls us):KI T TS own base w wr.drew mk n v vi ls us:=h.gr gZ.drew
theorem KI.app{TS:TypeId}{own:Option Nat}{n m:Nat}{v vi:Value}{ls:List Value}{us:List (Value×Nat)}(h:KI T TS own base w wr mk n v vi ls us)(hts:TS≠T)(hv:v.ownBlock=own)(h2:wn.ownsRow base T mk.length v' (n+m) (rep (n+m) mk))(h3:wr.grownBy wn v.ownBlock)(h4:∀u k,k<=n+m->wr.ownsRow base T mk.length u k (rep k mk)->wn.ownsRow base T mk.length u k (rep k mk))(hus:∀p∈us,p.2<=n+m):KI T TS own base w wn mk n v vi ls (us++[(v',n+m)]):=by
 have hk:Kv [TS] own 0 wr wn:=⟨Below.grown (Below.refl _ _) h3 zZ (fun _ _=>zZ),fun k cs t fr hk _ ho=>gU h3 hk (by rw[hv];exact ho)⟩;refine⟨h.fr.trans hk,aA h.le h3.size,fun z hz a b=>(h3.block z (aF hz h.fr.size) (fun e=>a (by rw[<-hv];exact e.symm))).trans (h.nl z hz a b),h4 _ _ (by omega) h.v0,jI h.vi h3 (jJ h.v0 h.vi hts),fun p hp=>?_⟩;rcases aE.mp hp with hp|hp
 ·exact h4 _ _ (hus p hp) (h.us p hp)
 ·simp only[aM] at hp;subst hp;exact h2
theorem Yb{i k:Nat}{cs':Array Value}{t t':TypeId}{fr fr':Nat×Nat}(h:w.heap[i]?=some (.cells cs t fr))(h':w.heap[k]?=some (.cells cs' t' fr'))(hn:t≠t'):i≠k:=by intro he;subst he;rw[h] at h';injection h' with h';injection h' with _ h';exact hn h'
structure Kept(T TS:TypeId)(own:Option Nat)(base:Nat)(w w':World)(mk:List Value)(n:Nat)(v vi':Value)(ls us:List Value):Prop where
 fr:Kv [TS,39] own 0 w w'
 vi:w'.ownsRow 0 TS 1 vi' us.length us
 ex:∃v1 v2 v3,us=ls++[v,v1,v2,v3]/\w'.ownsRow base T mk.length v n (rep n mk)/\w'.ownsRow base T mk.length v1 (n+1) (rep (n+1) mk)/\w'.ownsRow base T mk.length v2 (n+2) (rep (n+2) mk)/\w'.ownsRow base T mk.length v3 (n+3) (rep (n+3) mk)/\v.ownBlock=own/\∀u,u=v1\/u=v2\/u=v3->∀q,u.ownBlock=some q->own=some q\/w.heap.size<=q
theorem KI.box{TS:TypeId}{own:Option Nat}{n:Nat}{v vi:Value}{ls:List Value}{us:List (Value×Nat)}{bx:Array Value}(h:KI T TS own base w wr mk n v vi ls us)(hbx:w.heap[BB]?=some (.cells bx 39 (0,0)))(h1:TS≠39)(h2:own≠some BB):wr.heap[BB]?=some (.cells bx 39 (0,0)):=h.fr.kp _ _ _ _ hbx (by simp;exact fun e=>h1 e.symm) h2
structure Gk(T TS:TypeId)(own:Option Nat)(base:Nat)(w:World)(mk:List Value)(n:Nat)(v vi:Value)(ls:List Value)(strict:Prop)(wa wb:World):Prop where
 mks:∀u k,wa.ownsRow base T mk.length u k (rep k mk)->wb.ownsRow base T mk.length u k (rep k mk)
 bl:∀(k:Nat)(cs:Array Value)(t:TypeId)(fr:Nat×Nat),wa.heap[k]?=some (.cells cs t fr)->own≠some k->vi.ownBlock≠some k->wb.heap[k]?=some (.cells cs t fr)
 ki:KI T TS own base w wa mk n v vi ls []->KI T TS own base w wb mk n v vi ls []
 ts:strict->∀u k xs,wa.ownsRow 0 TS 1 u k xs->wb.ownsRow 0 TS 1 u k xs
theorem Gk.gr{TS:TypeId}{own:Option Nat}{n:Nat}{v vi:Value}{ls:List Value}{s:Prop}(g:Gr wa wb):Gk T TS own base w mk n v vi ls s wa wb:=⟨fun _ _ h=>gO h g,fun _ _ _ _ h _ _=>gK g h,fun h=>h.gr g,fun _ _ _ _ h=>gO h g⟩
theorem Gk.app{TS:TypeId}{own:Option Nat}{n m:Nat}{v vi:Value}{ls:List Value}{s:Prop}(hts:TS≠T)(hv:v.ownBlock=own)(h0:wa.ownsRow base T mk.length v n (rep n mk))(h2:wb.ownsRow base T mk.length v' (n+m) (rep (n+m) mk))(h3:wa.grownBy wb v.ownBlock)(h4:∀u k,wa.ownsRow base T mk.length u k (rep k mk)->wb.ownsRow base T mk.length u k (rep k mk)):Gk T TS own base w mk n v vi ls s wa wb:=by refine⟨h4,fun k cs t fr hk ho _=>gU h3 hk (by rw[hv];exact ho),fun h=>?_,fun _ u k xs h=>jI h h3 (jJ h0 h hts)⟩;have:=h.app hts hv h2 h3 (fun u k _=>h4 u k) (by simp);exact⟨this.fr,this.le,this.nl,this.v0,this.vi,by simp⟩
theorem Gk.app4{TS:TypeId}{own:Option Nat}{n:Nat}{v vi:Value}{ls:List Value}(hts:T≠TS)(hvi:wa.ownsRow 0 TS 1 vi ls.length ls)(h2:wb.ownsRow 0 TS 1 vi ls.length ls)(h3:wa.grownBy wb vi.ownBlock):Gk T TS own base w mk n v vi ls False wa wb:=by refine⟨fun u k h=>jI h h3 (jJ hvi h hts),fun k cs t fr hk _ ho=>gU h3 hk ho,fun h=>?_,fun h=>h.elim⟩;refine⟨h.fr.trans ⟨Below.grown (Below.refl _ _) h3 zZ (fun _ _=>zZ),fun k cs t fr hk ht _=>gU h3 hk (jF hvi hk (fun e=>ht (by simp[e])))⟩,aA h.le h3.size,fun z hz a b=>(h3.block z (aF hz h.fr.size) (fun e=>b e.symm)).trans (h.nl z hz a b),jI h.v0 h3 (jJ hvi h.v0 hts),h2,by simp⟩
def iZ(own:Option Nat)(vi:Value)(T:TypeId)(k:Nat)(cs:Array Value)(x:Value)(w:World):Prop:=∃B,x=.slice (some ⟨B,0,none⟩) k k/\own≠some B/\vi.ownBlock≠some B/\w.heap[B]?=some (.cells cs T (0,0))
def Mk(T:TypeId)(base:Nat)(own:Option Nat)(b1:Nat)(mk:List Value)(k:Nat)(x:Value)(w:World):Prop:=((∃b m q,x=.slice b m q)/\∀q,x.ownBlock=some q->own=some q\/b1<=q)/\w.ownsRow base T mk.length x k (rep k mk)
theorem iZ.gd{TS:TypeId}{own:Option Nat}{n k:Nat}{v vi:Value}{ls:List Value}{s:Prop}(h:iZ own vi T' k cs x wa)(g:Gk T TS own base w mk n v vi ls s wa wb):iZ own vi T' k cs x wb:=by obtain⟨B,h1,h2,h3,h4⟩:=h;exact⟨B,h1,h2,h3,g.bl _ _ _ _ h4 h2 h3⟩
theorem Mk.gd{TS:TypeId}{own o':Option Nat}{n k:Nat}{v vi:Value}{ls:List Value}{s:Prop}(h:Mk T base o' b1 mk k x wa)(g:Gk T TS own base w mk n v vi ls s wa wb):Mk T base o' b1 mk k x wb:=⟨h.1,g.mks _ _ h.2⟩
theorem iZ.alloc{TS:TypeId}{own:Option Nat}{n k:Nat}{v vi:Value}{ls:List Value}(h:KI T TS own base w wr mk n v vi ls [])(hv:v.ownBlock=own):iZ own vi T' k cs (.slice (some ⟨wr.heap.size,0,none⟩) k k) (wr.alloc (.cells cs T')):=by
 refine⟨wr.heap.size,rfl,fun he=>?_,fun he=>?_,fY _ _⟩
 ·rcases h.v0.2 with⟨hx,_⟩|⟨g,cap,cur,hx,_,hh,_⟩
  ·rw[hx] at hv;rw[<-hv] at he;simp[Value.ownBlock] at he
  ·rw[hx] at hv;rw[<-hv] at he;(have:g=wr.heap.size:=by simpa[Value.ownBlock] using he);have:=fZ hh;omega
 ·rcases h.vi.2 with⟨hx,_⟩|⟨g,cap,cur,hx,_,hh,_⟩
  ·rw[hx] at he;simp[Value.ownBlock] at he
  ·rw[hx] at he;(have:g=wr.heap.size:=by simpa[Value.ownBlock] using he);have:=fZ hh;omega
def qZ(T TS:TypeId)(base b1:Nat)(mk:List Value)(n:Nat)(v:Value)(own:Option Nat)(vi x:Value)(w:World):Prop:=∃v1 v2 v3,iZ own vi TS 4 #[v,v1,v2,v3] x w/\Mk T base own b1 mk (n+1) v1 w/\Mk T base own b1 mk (n+2) v2 w/\Mk T base own b1 mk (n+3) v3 w
def sG(T TS:TypeId)(base:Nat)(own:Option Nat)(b1:Nat)(mk:List Value)(n:Nat)(v vi:Value)(ls:List Value)(x:Value)(w:World):Prop:=((∃b m q,x=.slice b m q)/\∀q,x.ownBlock=some q->vi.ownBlock=some q\/b1<=q)/\∃v1 v2 v3,w.ownsRow 0 TS 1 x (ls.length+4) (ls++[v,v1,v2,v3])/\Mk T base own b1 mk (n+1) v1 w/\Mk T base own b1 mk (n+2) v2 w/\Mk T base own b1 mk (n+3) v3 w
theorem qZ.gd{TS:TypeId}{own:Option Nat}{n:Nat}{v vi:Value}{ls:List Value}{s:Prop}(h:qZ T TS base b1 mk n v own vi x wa)(g:Gk T TS own base w mk n v vi ls s wa wb):qZ T TS base b1 mk n v own vi x wb:=by obtain⟨v1,v2,v3,h0,h1,h2,h3⟩:=h;exact⟨v1,v2,v3,h0.gd g,h1.gd g,h2.gd g,h3.gd g⟩
theorem sG.gd{TS:TypeId}{own:Option Nat}{n:Nat}{v vi:Value}{ls:List Value}{s:Prop}(h:sG T TS base own b1 mk n v vi ls x wa)(g:Gk T TS own base w mk n v vi ls s wa wb)(hs:s):sG T TS base own b1 mk n v vi ls x wb:=by obtain⟨h',v1,v2,v3,h0,h1,h2,h3⟩:=h;exact⟨h',v1,v2,v3,g.ts hs _ _ _ h0,h1.gd g,h2.gd g,h3.gd g⟩
theorem sG.kept{TS:TypeId}{own:Option Nat}{n:Nat}{v vi:Value}{ls:List Value}{j:Nat}{bx:Array Value}(h:sG T TS base own w.heap.size mk n v vi ls x wr)(hv0:v.ownBlock=own)(k:KI T TS own base w wr mk n v vi ls [])(hbx:w.heap[BB]?=some (.cells bx 39 (0,0)))(h1:TS≠39)(h2:own≠some BB)(h4:T≠39):(∃us,Kept T TS own base w (wr.setCell ⟨BB,j,none⟩ x) mk n v x ls us)/\∀z,z<w.heap.size->own≠some z->vi.ownBlock≠some z->z≠BB->(wr.setCell ⟨BB,j,none⟩ x).heap[z]?=w.heap[z]?:=by
 obtain⟨_,v1,v2,v3,h0,m1,m2,m3⟩:=h;have hb2:=k.box hbx h1 h2;have kp:∀{u:Value}{q:Nat},wr.ownsRow base T mk.length u q (rep q mk)->(wr.setCell ⟨BB,j,none⟩ x).ownsRow base T mk.length u q (rep q mk):=fun hu=>jX hu hb2 (fun e=>h4 e.symm) _;refine⟨⟨ls++[v,v1,v2,v3],?_,?_,v1,v2,v3,rfl,kp k.v0,kp m1.2,kp m2.2,kp m3.2,hv0,fun u hu=>by rcases hu with rfl|rfl|rfl<;>first|exact m1.1.2|exact m2.1.2|exact m3.1.2⟩,fun z hz a b c=>(Below.heap_setCell wr ⟨BB,j,none⟩ x z c).trans (k.nl z hz a b)⟩
 ·refine(k.fr.wide (by simp)).trans ⟨Below.setCell (Below.refl _ _) (p:=⟨BB,j,none⟩) zZ _,?_⟩;intro q cs t fr hk ht _;simp only[aN,dR,or_false,not_or] at ht;exact iY hk (p:=⟨BB,j,none⟩) (Yb hk hb2 ht.2) _
 ·have e:(ls++[v,v1,v2,v3]).length=ls.length+4:=by simp
  rw[e];exact jX h0 hb2 (fun e=>h1 e.symm) _
theorem mU(a:ByteArray)(y k n:Int)(s:ByteArray)(k' n':Int)(s':ByteArray)(m:Int)(w:World)(hw:gV y k n s=true)(hv:iA k' n' s'=true)(hM:Ml m w):Calls prog 141 #[.agg #[.string a,.int .i64 y,.int .i64 k,.int .i64 n,.string s],.agg #[.int .i64 k',.int .i64 n',.string s']] w fun e w'=>e=.returned (.bool (gT y k n s k' n' s'))/\Below w.heap.size w w':=by
 have hs':=oH hv;have Hw:Hid (gV y k n s=true):=hw;have Hv:Hid (iA k' n' s'=true):=hv;clear hw hv;rcases mR Hw.out with rfl|rfl|rfl|rfl|rfl|rfl|rfl|rfl|rfl|rfl
 ·go_enter func141,ntmps141;go_wp2;go_ret;exact⟨gG (by simp[gT]),((Below.refl _ _).alloc lZ _).alloc (by simp) _⟩
 all_goals
  by_cases hk:(k != k')=true
  ·go_enter func141,ntmps141;go_wp2;go_ret;exact⟨gG (by simp[gT,hk]),((Below.refl _ _).alloc lZ _).alloc (by simp) _⟩
  ·(have hk':k=k':=by simpa using hk);subst hk';clear hk;go_enter func141,ntmps141;go_wp2_with(first|(go_at_call 145;refine(Tryz.strings_HasPrefix _ _ _).mono ?_;rintro e w' ⟨rfl,rfl⟩)|(go_at_call 146;refine(Tryz.strings_HasSuffix _ _ _ (by omega)).mono ?_;rintro e w' ⟨rfl,rfl⟩)|(go_at_call 147;refine(Tryz.strings_Contains _ _ m _ (by omega) ((hM.alloc _).alloc _).cell).mono ?_;rintro e w' ⟨rfl,rfl⟩));all_goals
    go_ret;refine⟨gG ?_,((Below.refl _ _).alloc lZ _).alloc (by simp) _⟩;go_light;first|(have h1:=sL Hw (by omega) (by omega);obtain⟨rfl,h1⟩:=h1;have h2:=pB Hv.out;simp_all[gT];done)|(simp_all[gT];done)|(simp[gT];omega)
theorem iV(a:ByteArray)(y k n:Int)(s:ByteArray)(w:World):Calls prog 148 #[.agg #[.string a,.int .i64 y,.int .i64 k,.int .i64 n,.string s]] w fun e w'=>e=.returned (.bool (iS y n))/\Below w.heap.size w w':=by
 go_enter func148,ntmps148;go_wp2;all_goals
  go_ret;refine⟨gG ?_,(Below.refl _ _).alloc lZ _⟩;go_light;first|(simp_all[iS,iI,iM];done)|go_show
theorem zE(n:Int)(w:World):Calls prog 156 #[.int .i64 n] w fun e w'=>e=.returned (.agg #[.int .i64 1,.int .i64 n,.string gM])/\w'=w.alloc (.cells #[.int .i64 1,.int .i64 n,.string ⟨#[]⟩] 84):=by go_enter func156,ntmps156;go_wp2;exact bodyPost_ret (v:=.agg #[.int .i64 1,.int .i64 n,.string gM]) (by simp[results,results156,go_sem,gM]) rfl ⟨rfl,rfl⟩
theorem Uc(a:ByteArray)(y k n:Int)(s:ByteArray)(w:World)(h2:2<=y)(h7:y<=7)(hlo:iI<=n)(hhi:n<=iM)(hn:iS y n=false):Calls prog 155 #[.agg #[.string a,.int .i64 y,.int .i64 k,.int .i64 n,.string s]] w fun e w'=>e=.returned (.tuple #[.int .i64 (lE y n),.int .i64 (lN y n)])/\Below w.heap.size w w':=by
 unfold iI at hlo;unfold iM at hhi;have Hn:Hid (iS y n=false):=hn;clear hn;have hy:y=2\/y=3\/y=4\/y=5\/y=6\/y=7:=by omega
 rcases hy with rfl|rfl|rfl|rfl|rfl|rfl
 case' inr.inr.inl=>have hx:-9223372036854775808<n:=by(have h:=Hn.out;simp[iS,iI] at h;omega)
 case' inr.inr.inr.inr.inl=>have hx:n<9223372036854775807:=by(have h:=Hn.out;simp[iS,iM] at h;omega)
 all_goals
  go_enter func155,ntmps155;go_wp2
 all_goals
  go_ret2;refine⟨Zh ?_ ?_,(Below.refl _ _).alloc lZ _⟩;all_goals
   go_light;simp_all[lE,lN,iI,iM]
theorem wC(b:Bool)(a:ByteArray)(y k n:Int)(s:ByteArray)(k' n':Int)(s':ByteArray)(m:Int)(w:World)(hl:gT y k n s k' n' s'=b)(hw:gV y k n s=true)(hv:iA k' n' s'=true)(hM:Ml m w):Calls prog 141 #[.agg #[.string a,.int .i64 y,.int .i64 k,.int .i64 n,.string s],.agg #[.int .i64 k',.int .i64 n',.string s']] w fun e w'=>e=.returned (.bool b)/\Below w.heap.size w w':=by subst hl;exact mU a y k n s k' n' s' m w hw hv hM
theorem uQ(a:ByteArray)(y n:Int)(s a':ByteArray)(y' n':Int)(s':ByteArray)(m:Int)(w:World)(h2:2<=y)(h7:y<=7)(hlo:iI<=n)(hhi:n<=iM)(hn:iS y n=false)(hw':gV y' 1 n' s'=true)(hM:Ml m w):Calls prog 149 #[.agg #[.string a,.int .i64 y,.int .i64 1,.int .i64 n,.string s],.agg #[.string a',.int .i64 y',.int .i64 1,.int .i64 n',.string s']] w
   fun e w'=>e=.returned (.bool (nJ y n y' n' s'))/\Below w.heap.size w w':=by
 have hv:∀q,iA 1 q gM=true:=fun q=>by simp[iA,iG]
 have Hw':Hid (gV y' 1 n' s'=true):=hw';have Hv:Hid (∀q,iA 1 q gM=true):=hv;clear hw' hv;go_enter func149,ntmps149;go_wp2_with fail;refine(Uc a y 1 n s _ h2 h7 hlo hhi hn).mono ?_;rintro e w1 ⟨rfl,hb⟩;obtain⟨hc,hf⟩:=gP hb;have hz1:w.heap.size+1<w1.heap.size:=by have:=hb.size;simp at this;omega
 have hM1:Ml m w1:=((hM.alloc _).alloc _).below hb;clear hn h2 h7 hlo hhi;go_wp2_with fail;cases hlet:gT y' 1 n' s' 1 (lE y n) gM
 ·first|go_region_with(first|(go_at_call 156;refine(zE _ _).mono ?_;rintro e w2 ⟨rfl,rfl⟩)|(go_at_call_of 141 (Value.agg #[.int .i64 1,.int .i64 (lE y n),.string gM]);refine(wC false _ _ _ _ _ _ _ _ m _ hlet Hw' (Hv _) (by repeat(first|assumption|apply Ml.drew|apply Ml.alloc))).mono ?_;rintro e w3 ⟨rfl,hb3⟩;have g3:Gr w1 w3:=Gr.call (by repeat(first|exact gZ|assumption|apply Gr.drew|apply Gr.alloc)) hb3;clear hb3;obtain⟨hc3,hf3⟩:=gP g3;have hz3:=g3.lt hz1;have hM3:=g3.ml hM1))|fail
  all_goals
   go_wp2;go_ret;exact⟨gG (by simp[nJ,hlet]),Gr.call (((Gr.refl w).alloc _).alloc _) (Gr.call hb g3)⟩
 ·cases hlet2:gT y' 1 n' s' 1 (lN y n) gM;all_goals
   (first|go_region_with(first|(go_at_call 156;refine(zE _ _).mono ?_;rintro e w2 ⟨rfl,rfl⟩)|(go_at_call_of 141 (Value.agg #[.int .i64 1,.int .i64 (lE y n),.string gM]);refine(wC true _ _ _ _ _ _ _ _ m _ hlet Hw' (Hv _) (by repeat(first|assumption|apply Ml.drew|apply Ml.alloc))).mono ?_;rintro e w3 ⟨rfl,hb3⟩;have g3:Gr w1 w3:=Gr.call (by repeat(first|exact gZ|assumption|apply Gr.drew|apply Gr.alloc)) hb3;clear hb3;obtain⟨hc3,hf3⟩:=gP g3;have hz3:=g3.lt hz1;have hM3:=g3.ml hM1)|(go_at_call_of 141 (Value.agg #[.int .i64 1,.int .i64 (lN y n),.string gM]);refine(wC _ _ _ _ _ _ _ _ _ m _ hlet2 Hw' (Hv _) (by repeat(first|assumption|apply Ml.drew|apply Ml.alloc))).mono ?_;rintro e w3 ⟨rfl,hb3⟩;have g3:Gr w1 w3:=Gr.call (by repeat(first|exact gZ|assumption|apply Gr.drew|apply Gr.alloc)) hb3;clear hb3;obtain⟨hc3,hf3⟩:=gP g3;have hz3:=g3.lt hz1;have hM3:=g3.ml hM1))|fail);all_goals
    go_wp2;go_ret;exact⟨gG (by simp[nJ,hlet,hlet2]),Gr.call (((Gr.refl w).alloc _).alloc _) (Gr.call hb (by assumption))⟩
theorem xB(a:ByteArray)(y:Int)(s a':ByteArray)(y':Int)(s':ByteArray)(m:Int)(w:World)(hw:gV y 2 0 s=true)(hw':gV y' 2 0 s'=true)(hM:Ml m w):Calls prog 150 #[.agg #[.string a,.int .i64 y,.int .i64 2,.int .i64 0,.string s],.agg #[.string a',.int .i64 y',.int .i64 2,.int .i64 0,.string s']] w
   fun e w'=>e=.returned (.bool (qO y s y' s'))/\Gr w w':=by
 have hv:iA 2 0 s=true:=Ez hw;have hs:=oH hv;have Hw:Hid (gV y 2 0 s=true):=hw;have Hw':Hid (gV y' 2 0 s'=true):=hw';have Hv:Hid (iA 2 0 s=true):=hv;clear hw hw' hv;go_enter func150,ntmps150;go_wp2_with(go_at_call 141;refine(mU _ _ _ _ _ _ _ _ m _ Hw' Hv (by repeat(first|assumption|apply Ml.drew|apply Ml.alloc))).mono ?_;rintro e w3 ⟨rfl,hb3⟩;obtain⟨hc3,hf3⟩:=gP hb3;have hz3:w.heap.size+1<w3.heap.size:=Gr.lt hb3 (by simp));all_goals
  go_ret;refine⟨gG ?_,?_⟩
  ·go_light;(try clear hc3 hf3 hb3);(try clear hM);first|(simp_all[qO];done)|go_show
  ·first|exact((Gr.refl w).alloc _).alloc _|exact Gr.call (((Gr.refl w).alloc _).alloc _) hb3
theorem xE(a:ByteArray)(y n:Int)(s a':ByteArray)(y' n':Int)(s':ByteArray)(m:Int)(w:World)(hw:gV y 3 n s=true)(hw':gV y' 3 n' s'=true)(hM:Ml m w):Calls prog 151 #[.agg #[.string a,.int .i64 y,.int .i64 3,.int .i64 n,.string s],.agg #[.string a',.int .i64 y',.int .i64 3,.int .i64 n',.string s']] w
   fun e w'=>e=.returned (.bool (tT y n s y' n' s'))/\Gr w w':=by
 have Hv:Hid (iA 3 0 ⟨#[]⟩=true):=by show iA 3 0 gM=true;simp[iA,iG]
 have Hv1:Hid (iA 3 1 ⟨#[]⟩=true):=by show iA 3 1 gM=true;simp[iA,iG]
 have Hw:Hid (gV y 3 n s=true):=hw;have Hw':Hid (gV y' 3 n' s'=true):=hw';clear hw hw';go_enter func151,ntmps151;go_wp2;refine wp_loop_rounds 3 ?_;rw[rounds_succ];go_wp2_with(go_at_call 141;refine(mU _ _ _ _ _ _ _ _ m _ (by first|exact Hw.out|exact Hw'.out) (by first|exact Hv.out|exact Hv1.out) (by repeat(first|assumption|apply Ml.drew|apply Ml.alloc))).mono ?_;rintro e w3 ⟨rfl,hb3⟩;have g3:Gr w w3:=Gr.call (by repeat(first|exact gZ|assumption|apply Gr.drew|apply Gr.alloc)) hb3;obtain⟨hc3,hf3⟩:=gP hb3;have hq3:w.heap.size+3<=w3.heap.size:=(by(have:=hb3.size;(try simp at this);omega));obtain⟨hz3,hz4,hz5⟩:=Rh hq3;have hM3:=g3.ml hM);all_goals(try rw[rounds_succ])
 all_goals go_wp2_with(go_at_call 141;refine(mU _ _ _ _ _ _ _ _ m _ (by first|exact Hw.out|exact Hw'.out) (by first|exact Hv.out|exact Hv1.out) (by repeat(first|assumption|apply Ml.drew|apply Ml.alloc))).mono ?_;rintro e w3 ⟨rfl,hb3⟩;have g3:Gr w w3:=Gr.call (by repeat(first|exact gZ|assumption|apply Gr.drew|apply Gr.alloc)) hb3;obtain⟨hc3,hf3⟩:=gP hb3;have hq3:w.heap.size+3<=w3.heap.size:=(by(have:=hb3.size;(try simp at this);omega));obtain⟨hz3,hz4,hz5⟩:=Rh hq3;have hM3:=g3.ml hM)
 all_goals(try rw[rounds_succ])
 all_goals go_wp2_with fail
 all_goals
  go_ret;refine⟨gG ?_,by assumption⟩;go_light;first|(simp_all[tT,gM];done)|go_show
theorem Iy(a:ByteArray)(y k n:Int)(s a':ByteArray)(y' k' n':Int)(s':ByteArray)(m:Int)(w:World)(hw:gV y k n s=true)(hw':gV y' k' n' s'=true)(hlo:iI<=n)(hhi:n<=iM)(hM:Ml m w):Calls prog 143 #[.agg #[.string a,.int .i64 y,.int .i64 k,.int .i64 n,.string s],.agg #[.string a',.int .i64 y',.int .i64 k',.int .i64 n',.string s']] w
   fun e w'=>e=.returned (.bool (jB y k n s y' k' n' s'))/\Gr w w':=by
 have Hlo:Hid (iI<=n):=hlo;have Hhi:Hid (n<=iM):=hhi;have Hw:Hid (gV y k n s=true):=hw;have Hw':Hid (gV y' k' n' s'=true):=hw';clear hw hw' hlo hhi;by_cases hy':(y'==1)=true
 ·go_enter func143,ntmps143;go_wp2_with fail;go_ret;exact⟨gG (by simp only[jB,hy',Bool.true_or,if_true]),((Gr.refl w).alloc _).alloc _⟩
 replace hy':(y'==1)=false:=by simpa using hy'
 by_cases hno:iS y n=true
 ·have Hno:Hid (iS y n=true):=hno;clear hno;go_enter func143,ntmps143;go_wp2_with fail;refine(iV _ _ _ _ _ _).mono ?_;rw[Hno.out];rintro e w1 ⟨rfl,hb1⟩;go_wp2_with fail;go_ret;exact⟨gG (by simp only[jB,Hno.out,Bool.or_true,if_true]),Gr.call (((Gr.refl w).alloc _).alloc _) hb1⟩
 have Hno:Hid (iS y n=false):=by show _=_;simpa using hno
 clear hno;have HW:Hid (jB y k n s y' k' n' s'=if y==1||k != k' then false else if y'==3 then !gT y k n s k' n' s' else if k==1 then nJ y n y' n' s' else if k==2 then qO y s y' s' else tT y n s y' n' s'):=by show _=_;simp only[jB,hy',Hno.out,Bool.or_self,bO,if_false]
 by_cases hyk:y=1\/k≠k'
 ·have Hr:Hid (jB y k n s y' k' n' s'=false):=by show _=_;rw[HW.out];rcases hyk with h|h<;>simp[h]
  by_cases hy:(y==1)=true;all_goals
   try replace hy:(y==1)=false:=by simpa using hy
  ·go_enter func143,ntmps143;go_wp2_with fail;refine(iV _ _ _ _ _ _).mono ?_;rw[Hno.out];rintro e w1 ⟨rfl,hb1⟩;obtain⟨hc1,hf1⟩:=gP hb1;go_wp2_with fail;go_ret;exact⟨gG (by rw[Hr.out]),Gr.call (((Gr.refl w).alloc _).alloc _) hb1⟩
  ·have hk:(k != k')=true:=by
    rcases hyk with h|h
    ·simp[h] at hy
    ·simpa using h
   clear hyk;go_enter func143,ntmps143;go_wp2_with fail;refine(iV _ _ _ _ _ _).mono ?_;rw[Hno.out];rintro e w1 ⟨rfl,hb1⟩;obtain⟨hc1,hf1⟩:=gP hb1;go_wp2_with fail;go_ret;exact⟨gG (by rw[Hr.out]),Gr.call (((Gr.refl w).alloc _).alloc _) hb1⟩
 obtain⟨hy1,hkk⟩:y≠1/\k=k':=by omega
 clear hyk;subst hkk;have hy:(y==1)=false:=by simpa using hy1
 have Hv:Hid (iA k n s=true):=mX Hw hy1;have Hy:Hid (y≠1):=hy1;have Hv':Hid (iA k n' s'=true):=mX Hw' (by simpa using hy');clear hy1;by_cases hy3:(y'==3)=true
 ·have Hr:Hid (jB y k n s y' k n' s'=!gT y k n s k n' s'):=by show _=_;rw[HW.out];simp[hy,hy3]
  go_enter func143,ntmps143;go_wp2_with fail;refine(iV _ _ _ _ _ _).mono ?_;rw[Hno.out];rintro e w1 ⟨rfl,hb1⟩;obtain⟨hc1,hf1⟩:=gP hb1;have hM1:Ml m w1:=Gr.ml hb1 ((hM.alloc _).alloc _);have hz1:w.heap.size+1<w1.heap.size:=Gr.lt hb1 (by simp);go_wp2_with fail;refine(mU _ _ _ _ _ _ _ _ m _ Hw Hv' hM1).mono ?_;rintro e w2 ⟨rfl,hb2⟩;go_wp2_with fail;go_ret;exact⟨gG (by rw[Hr.out]),Gr.call (Gr.call (((Gr.refl w).alloc _).alloc _) hb1) hb2⟩
 replace hy3:(y'==3)=false:=by simpa using hy3
 rcases rJ Hv.out with rfl|rfl|rfl
 ·have Hr:Hid (jB y 1 n s y' 1 n' s'=nJ y n y' n' s'):=by show _=_;rw[HW.out];simp[hy,hy3]
  go_enter func143,ntmps143;go_wp2_with fail;refine(iV _ _ _ _ _ _).mono ?_;rw[Hno.out];rintro e w1 ⟨rfl,hb1⟩;obtain⟨hc1,hf1⟩:=gP hb1;have hM1:Ml m w1:=Gr.ml hb1 ((hM.alloc _).alloc _);have hz1:w.heap.size+1<w1.heap.size:=Gr.lt hb1 (by simp);go_wp2_with fail;refine(uQ _ _ _ _ _ _ _ _ m _ (sK Hw Hy.out).1 (sK Hw Hy.out).2 Hlo Hhi Hno Hw' hM1).mono ?_;rintro e w2 ⟨rfl,hb2⟩;go_wp2_with fail;go_ret;exact⟨gG (by rw[Hr.out]),Gr.call (Gr.call (((Gr.refl w).alloc _).alloc _) hb1) hb2⟩
 ·obtain rfl:=mF Hv.out;obtain rfl:=mF Hv'.out;have Hr:Hid (jB y 2 0 s y' 2 0 s'=qO y s y' s'):=by show _=_;rw[HW.out];simp[hy,hy3]
  go_enter func143,ntmps143;go_wp2_with fail;refine(iV _ _ _ _ _ _).mono ?_;rw[Hno.out];rintro e w1 ⟨rfl,hb1⟩;obtain⟨hc1,hf1⟩:=gP hb1;have hM1:Ml m w1:=Gr.ml hb1 ((hM.alloc _).alloc _);have hz1:w.heap.size+1<w1.heap.size:=Gr.lt hb1 (by simp);go_wp2_with fail;refine(xB _ _ _ _ _ _ m _ Hw Hw' hM1).mono ?_;rintro e w2 ⟨rfl,hb2⟩;go_wp2_with fail;go_ret;exact⟨gG (by rw[Hr.out]),Gr.call (Gr.call (((Gr.refl w).alloc _).alloc _) hb1) hb2⟩
 ·have Hr:Hid (jB y 3 n s y' 3 n' s'=tT y n s y' n' s'):=by show _=_;rw[HW.out];simp[hy,hy3]
  go_enter func143,ntmps143;go_wp2_with fail;refine(iV _ _ _ _ _ _).mono ?_;rw[Hno.out];rintro e w1 ⟨rfl,hb1⟩;obtain⟨hc1,hf1⟩:=gP hb1;have hM1:Ml m w1:=Gr.ml hb1 ((hM.alloc _).alloc _);have hz1:w.heap.size+1<w1.heap.size:=Gr.lt hb1 (by simp);go_wp2_with fail;refine(xE _ _ _ _ _ _ _ _ m _ Hw Hw' hM1).mono ?_;rintro e w2 ⟨rfl,hb2⟩;go_wp2_with fail;go_ret;exact⟨gG (by rw[Hr.out]),Gr.call (Gr.call (((Gr.refl w).alloc _).alloc _) hb1) hb2⟩
theorem jT(a:ByteArray)(y k n:Int)(s:ByteArray)(w:World)(ha:a.size<=maxLen):Calls prog 69 #[.agg #[.string a,.int .i64 y,.int .i64 k,.int .i64 n,.string s]] w fun e w'=>e=.returned (.bool (jK a y k n s))/\Below w.heap.size w w':=by
 go_enter func69,ntmps69;go_wp2_with(first|(go_at_call 81;refine(nZ _ _ ha).mono ?_;rintro e w' ⟨rfl,rfl⟩)|(go_at_call 82;refine(pQ _ _ _ _).mono ?_;rintro e w1 ⟨rfl,hb⟩));all_goals
  go_ret;refine⟨gG ?_,?_⟩
  ·go_light;first|(simp_all[jK,gV];done)|(simp_all[jK,gV];omega)
  ·first|exact(Below.refl _ _).alloc lZ _|exact((Below.refl _ _).alloc lZ _).trans (hb.mono (by simp))
theorem kF(a:ByteArray)(y k n:Int)(s:ByteArray)(w:World)(ha:a.size<=maxLen):Calls prog 77 #[.agg #[.string a,.int .i64 y,.int .i64 k,.int .i64 n,.string s]] w fun e w'=>e=.returned (.bool (jK a y k n s))/\Below w.heap.size w w':=by
 go_enter func77,ntmps77;go_wp2_with(first|(go_at_call 85;refine(uU _ _ ha).mono ?_;rintro e w' ⟨rfl,rfl⟩)|(go_at_call 86;refine(sN _ _ _ _).mono ?_;rintro e w1 ⟨rfl,hb⟩;obtain⟨hc,hf⟩:=gP hb));all_goals
  go_ret;refine⟨gG ?_,?_⟩
  ·go_light;(try clear hc hf);(try clear hb);unfold jK;first|(rw[Bj y k n s (by omega)];simp;done)|(rw[uB y k n s (by omega) (by omega)];simp_all;done)|(rw[vQ y k n s (by omega) (by omega)];simp_all;done)|(simp_all[sM];done)|(have hne:¬y=1:=(by simp_all);rw[Bp y k n s (by omega) (by omega)];simp_all;done)|(simp_all;done)
  ·first|exact(Below.refl _ _).alloc lZ _|exact((Below.refl _ _).alloc lZ _).trans (hb.mono (by simp))
theorem oG(l:List Wnt)(b off cap:Nat)(w:World)(hl:l.length<=maxLen)(hb:b<w.heap.size)(hat:iD w b off l)(hwf:∀x∈l,Wnt.Wf x):Calls prog 40 #[.slice (some ⟨b,off,none⟩) l.length cap] w fun e w'=>e=.returned (.int .i64 (chk l))/\Gr w w':=by
 unfold maxLen at hl;have HC:Hid (iD w b off l):=hat;have HF:Hid (∀x∈l,Wnt.Wf x):=hwf;clear hat hwf;go_enter func40,ntmps40;go_wp2
 ·go_ret;exact⟨jE (vI ‹_›).symm,gZ⟩
 ·go_loopw [15] (fun i wr=>∃k:Nat,k<=l.length/\i=.int .i64 k/\Gr w wr/\Hid ((l.take k).all wOk=true)) (fun i _=>l.length-(intOf i).toNat);case atStart=>exact⟨0,zZ,rfl,gZ,rfl⟩
  case round=>
   obtain⟨k,hk,rfl,g,HA⟩:=hrel;by_cases hlt:k<l.length
   ·obtain⟨c1,c2,c3,c4,c5⟩:=(HC.gr g hb) k hlt;have hb':=g.lt hb;go_wp2_with fail;refine(jT _ _ _ _ _ _ (HF _ (jP hlt)).a).mono ?_;rintro e w1 ⟨rfl,hb1⟩;have g1:Gr w w1:=Gr.call (g.alloc _) hb1;clear c1 c2 c3 c4 c5;go_wp2
    ·go_ret;refine⟨jE (Hu k hlt ?_).symm,g1⟩;simpa[wOk] using ‹(!jK _ _ _ _ _)=true›
    ·go_roundw;case rel=>
      refine⟨k+1,by omega,by go_num,g1,lQ wOk l k dW hlt HA ?_⟩;simpa[wOk,wat] using ‹(!jK _ _ _ _ _)=false›
     case measure=>simp[intOf];omega
   ·go_wp2;go_ret;exact⟨jE (My k hlt (by omega) (by omega) HA.out).symm,g⟩
 ·go_ret;exact⟨jE (vI (Or.inl ‹_›)).symm,gZ⟩
end Go.Proofs.YtecnfgikbmcgoabGreat
