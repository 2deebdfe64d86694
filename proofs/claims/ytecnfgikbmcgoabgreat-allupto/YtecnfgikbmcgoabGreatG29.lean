import Derived.Test.YtecnfgikbmcgoabGreatG28
set_option maxHeartbeats 8000000
set_option maxRecDepth 100000
namespace Go.Proofs.YtecnfgikbmcgoabGreat
open Go.Proofs.Tryz
open Go.RowKit
variable {Ls:List Rln}{T:Tc}{X:List Hm}{Xs:Nat->List Hm}{j:Nat}{v':Value}{z:List Value}
theorem Tryz.infoRCl:(Tryz.prog.info? 104).map (fun i=>(i.zero,i.size,i.bytes))=some (some (.agg #[.int .i64 0,.int .i64 0,.slice none 0 0,.int .i64 0]),4,48):=by kernel_rfl
theorem Fp(l:List Rcl)(c:Rcl):iF (l++[c])=iF l++rP c:=by simp[iF]
theorem Tg{cs:List Rcl}{c:Rcl}(h:j<cs.length):kat (cs++[c]) j=kat cs j:=by unfold kat;rw[aI,aI,cV h]
theorem Ti(cs:List Rcl)(c:Rcl):kat (cs++[c]) cs.length=c:=by simp[kat]
section
variable {A:Nat->Prop}{C:Rc}{R:Nat->Rl}{w:World}{ads:Nat->Option Addr×Nat}{Xs:Nat->List Hm}{lv cv:Value}{Ls:List Rln}{cs:List Rcl}
theorem Rt.join(h:Rt A C R w ads Xs lv Ls cv cs)(n:Int)(b:Nat){w1:World}(hq:Qr w1 104 4 (fun i=>v'.ownBlock=some i) v' (cs.length+1) (iF cs++[.int .i64 n,.int .i64 (b:Int),.slice none 0 0,.int .i64 0]))(hg:w.grownBy w1 cv.ownBlock)(ho:v'.ownBlock=cv.ownBlock\/v'.ownBlock=some w.heap.size):∃R',Rt A C R' (w1.setCell ⟨C.TB,2,none⟩ v') ads Xs lv Ls v' (cs++[⟨n,b,[],none,0,0⟩])/\Fr R R' w (w1.setCell ⟨C.TB,2,none⟩ v'):=by
 have hown:=h.k.cl.own;have hs1:=hg.size;have hs:w.heap.size<=(w1.setCell ⟨C.TB,2,none⟩ v').heap.size:=by rw[gY];exact hs1
 have hsame:∀i,i<w.heap.size->(if v'.ownBlock=some i then Rl.cl 0 else R i)=R i:=by
  intro i hi;split
  ·rename_i e;rcases ho with h1|h1
   ·rw[h1] at e;exact(hown i e).1.symm
   ·rw[h1] at e;injection e with e;omega
  ·rfl
 have ke:∀i,i<w.heap.size->R i≠.cl 0->R i≠.cm->(w1.setCell ⟨C.TB,2,none⟩ v').heap[i]?=w.heap[i]?:=fun i hi h2 h3=>by rw[Below.heap_setCell w1 _ v' i (fun e=>h3 (by have e:i=C.TB:=e;rw[e];exact h.b.rT))];exact hg.block i hi (fun e=>h2 (hown i e.symm).1)
 have ne:∀{i:Nat}{x:Rl},R i=x->x≠.cl 0->x≠.cm->R i≠.cl 0/\R i≠.cm:=fun e hx hy=>by rw[e];exact⟨hx,hy⟩
 have kA:∀i,A i->R i≠.cl 0/\R i≠.cm:=fun i hi=>ne (h.b.aR i hi) (fun e=>by cases e) (fun e=>by cases e);have htop:∀i,(w1.setCell ⟨C.TB,2,none⟩ v').heap.size<=i->(if v'.ownBlock=some i then Rl.cl 0 else R i)=.no:=by intro i hi;rw[gY] at hi;rw[if_neg (fun e=>by have:=(hq.own i e).2;omega)];exact h.b.top i (aA hs1 hi)
 have haR:∀i,A i->(if v'.ownBlock=some i then Rl.cl 0 else R i)=.no:=fun i hi=>by rw[hsame i (h.b.aL i hi)];exact h.b.aR i hi
 have hT1:w1.heap[C.TB]?=some (.cells #[.slice (some ⟨C.HB,0,none⟩) C.nb C.hcap,lv,cv] 102 (0,0)):=(hg.block _ h.tlt (fun e=>by have:=(hown _ e.symm).1;rw[h.b.rT] at this;cases this)).trans h.b.t;have nT:∀i,v'.ownBlock=some i->i≠C.TB:=fun i hi e=>by have a:=hsame C.TB h.tlt;rw[e] at hi;rw[if_pos hi,h.b.rT] at a;cases a
 obtain⟨cur,c1,c2⟩:=h.b.h;have e1:=ne h.b.rH (fun e=>by cases e) (fun e=>by cases e);refine⟨fun i=>if v'.ownBlock=some i then .cl 0 else R i,⟨⟨h.b.nb8,h.b.pos,?_,(hsame _ h.tlt).trans h.b.rT,⟨cur,(ke _ (fZ c1) e1.1 e1.2).trans c1,c2⟩,(hsame _ (fZ c1)).trans h.b.rH,htop,haR,fun i hi=>aF (h.b.aL i hi) hs⟩,h.h.keep hs (fun i hi hr=>?_) hsame,h.l.keep hs (fun i hi hr=>?_) hsame,⟨?_,fun j hj=>?_,fun c hc x hx=>?_⟩⟩,⟨hg.os,hg.tape,hg.output,hs,fun i hi hr=>?_,hsame⟩⟩
 ·rw[heap_setCell_same _ _ _ _ _ _ hT1];rfl
 ·have:R i≠.cl 0/\R i≠.cm:=by
   rcases hr with hr|hr
   ·exact ne hr (fun e=>by cases e) (fun e=>by cases e)
   ·exact kA i hr
  exact ke i hi this.1 this.2
 ·have:R i≠.cl 0/\R i≠.cm:=by
   rcases hr with hr|⟨j,hr⟩|hr|hr
   ·exact ne hr (fun e=>by cases e) (fun e=>by cases e)
   ·exact ne hr (fun e=>by cases e) (fun e=>by cases e)
   ·exact ne hr (fun e=>by cases e) (fun e=>by cases e)
   ·exact kA i hr
  exact ke i hi this.1 this.2
 ·rw[aG,Fp];exact hq.kept fun g _ hg'=>⟨Below.heap_setCell w1 _ v' g (nT g hg'),if_pos hg'⟩
 ·rw[aG] at hj;by_cases hj':j<cs.length
  ·rw[Tg hj'];exact(h.k.bx j hj').kept fun g hg' hR=>⟨ke g hg' (ne hR (fun e=>by cases e) (fun e=>by cases e)).1 (ne hR (fun e=>by cases e) (fun e=>by cases e)).2,(hsame g hg').trans hR⟩
  ·(have e:j=cs.length:=by simp at hj;omega);subst e;rw[Ti];exact Qr.nil _ _ _ _
 ·rcases aE.1 hc with hc|hc
  ·exact(h.k.be c hc x hx).keep hs (fun i hi ha=>ke i hi (kA i ha).1 (kA i ha).2)
  ·rw[aM.1 hc] at hx;cases hx
 ·have:R i≠.cl 0/\R i≠.cm:=by rcases hr with hr|hr<;>exact ne hr (fun e=>by cases e) (fun e=>by cases e)
  exact ke i hi this.1 this.2
end
theorem Je(A:Nat->Prop)(C:Rc)(R:Nat->Rl)(w:World)(ads:Nat->Option Addr×Nat)(Xs:Nat->List Hm)(lv cv:Value)(Ls:List Rln)(cs:List Rcl)(h:Rt A C R w ads Xs lv Ls cv cs)(n:Int)(b:Nat)(hb:b<C.nb)(hn:∀c∈cs,c.num≠n)(hl:cs.length<=15):Calls prog 17 #[.pointer (some ⟨C.TB,0,none⟩),.int .i64 n,.int .i64 b] w fun e w'=>e=.returned (.int .i64 0)/\∃R' cv',Rt A C R' w' ads Xs lv Ls cv' (cs++[⟨n,b,[],none,0,0⟩])/\Fr R R' w w':=by
 obtain⟨i0,hi,hz0,hz1,hz2⟩:=info_parts Tryz.infoRCl;have hnb:=h.b.nb8;obtain⟨ca,cc,rfl⟩:=h.k.cl.shape;have CL:=hZ (jU C.TB ca cc cs n w h.c2 h.k.cl.rowAt (by omega));have HH:=hZ h;have HN:=hZ hn;have t0:=h.c0;have t2:=h.c2;have HTY:Hid (Value.ownBlock (.slice ca cs.length cc)≠some C.TB):=fun e=>absurd (h.k.cl.ownTy e h.b.t) (by decide);have htl:=h.tlt;clear h hn;go_enter func17,ntmps17;go_wp2_with fail;refine CL.mono ?_;rintro e w1 ⟨hcase,hw⟩;subst hw;rcases hcase with⟨j,hj,hk,rfl⟩|⟨_,rfl⟩
 ·exact absurd hk (HN _ (kE hj))
 ·clear CL;have HQC:=hZ (HH.gr ((Gr.refl w1).alloc (.cells #[.int .i64 n,.int .i64 (b:Int),.slice none 0 0,.int .i64 0] 104)));go_wp2_with(at_builtin;refine lU rfl _ _ 100 rfl 104 i0 _ 4 48 underlying100 hi hz0 hz1 hz2 rfl (fun i=>R i=.cl 0) _ _ (iF cs) rfl HQC.k.cl ⟨w1.heap.size,0,none⟩ 1 1 [.int .i64 n,.int .i64 (b:Int),.slice none 0 0,.int .i64 0] rfl (by omega) rfl (World.news_of_block (jN rfl)) ?k2 ?k3 ?k4 ?_);case k2=>intro t ht;simp at ht;rcases ht with rfl|rfl|rfl|rfl<;>rfl
  case k3=>unfold maxLen;omega
  case k4=>omega
  intro v5 w5 hq5 hg5 ho5 _;obtain⟨ya,yk,rfl⟩:=hq5.shape;have b5:w5.heap[C.TB]?=some (.cells #[.slice (some ⟨C.HB,0,none⟩) C.nb C.hcap,lv,.slice ca cs.length cc] 102 (0,0)):=(hg5.block C.TB (by simp;omega) (fun e=>HTY e.symm)).trans HQC.b.t;have hc5:w5.cell? ⟨C.TB,2,none⟩=some (.slice ca cs.length cc):=by rw[cZ b5];rfl
  have hf5:=vF b5 2;have FIN:=hZ (HQC.join n b hq5 hg5 (by rw[gX];exact ho5));clear hq5 hg5 ho5 HQC b5 HTY t0 t2;go_wp2_with fail;go_ret;obtain⟨R',f1,f2⟩:=FIN.out;exact⟨rfl,R',_,f1,(Fr.gr ((Gr.refl w1).alloc _)).trans f2⟩
theorem Zo{h y:Hm}(hy:y∈pE h X):y=h\/y∈X:=by
 rw[Yt] at hy;rcases aE.1 hy with hy|hy
 ·exact Or.inr (aY.1 hy).1
 ·rcases aN.1 hy with hy|hy
  ·exact Or.inl hy
  ·exact Or.inr (aY.1 hy).1
section
variable {A:Nat->Prop}{C:Rc}{R:Nat->Rl}{w:World}{ads:Nat->Option Addr×Nat}{Xs:Nat->List Hm}{lv cv:Value}{Ls:List Rln}{cs:List Rcl}
theorem aAS(h:Rt A C R w ads Xs lv Ls cv cs){b:Nat}(hb:b<C.nb)(x:Hm)(hx:FiO A w x.2.1 x.1.f)(hlen:(Xs b).length<=1048576)(hs:SrM (Xs b)):Calls prog 46 #[.pointer (some ⟨C.TB,0,none⟩),.int .i64 b,.agg (hv x.1 x.2.1 x.2.2)] w fun e w'=>e=.returned (.tuple #[])/\∃R' ads',Rt A C R' w' ads' (fun i=>if i=b then pE x (Xs b) else Xs i) lv Ls cv cs/\Fr R R' w w':=by
 refine(Wi C.TB C.HB C.nb C.hcap (ads b).1 (ads b).2 (Xs b) x w b hb h.c0 (h.hbc hb) h.tlt h.hlt (h.hfz b) (h.h.row b hb).at' hlen hs).mono ?_;rintro e w' ⟨rfl,w1,va,vk,g1,o1,rfl⟩;obtain⟨R',k1,k2⟩:=Rt.turnH (Fr.gr g1) (h.gr g1) hb (pE x (Xs b)) o1 (fun i hi=>h.b.top i (iC o1 i hi)) h.b.aL (fun y hy=>by
  rcases Zo hy with rfl|hy
  ·exact hx.keep g1.size (fun k hk _=>g1.block k hk)
  ·exact(h.h.fi b hb y hy).keep g1.size (fun k hk _=>g1.block k hk))
 exact⟨rfl,R',_,k1,k2⟩
theorem Yr(h:Rt A C R w ads Xs lv Ls cv cs){b:Nat}(hb:b<C.nb)(k:Ky)(hlen:(Xs b).length<=1048576):Calls prog 49 #[.pointer (some ⟨C.TB,0,none⟩),.int .i64 b,.agg #[.int .i64 k.1,.int .i64 k.2]] w fun e w'=>e=.returned (.tuple #[])/\∃R' ads',Rt A C R' w' ads' (fun i=>if i=b then mV k (Xs b) else Xs i) lv Ls cv cs/\Fr R R' w w':=by refine(Ug C.TB C.HB C.nb C.hcap (ads b).1 (ads b).2 (Xs b) w b hb k h.c0 (h.hbc hb) h.tlt h.hlt (h.hfz b) (h.h.row b hb).at' hlen).mono ?_;rintro e w' ⟨rfl,w1,va,vk,g1,o1,rfl⟩;obtain⟨R',k1,k2⟩:=Rt.turnH (Fr.gr g1) (h.gr g1) hb (mV k (Xs b)) o1 (fun i hi=>h.b.top i (iC o1 i hi)) h.b.aL (fun y hy=>(h.h.fi b hb y (aY.1 hy).1).keep g1.size (fun k hk _=>g1.block k hk));exact⟨rfl,R',_,k1,k2⟩
theorem Qr.tail{e:TypeId}{size:Nat}{P:Nat->Prop}{g off cap n:Nat}{ms xs:List Value}(h:Qr w e size P (.slice (some ⟨g,off,none⟩) (n+1) cap) (n+1) (ms++xs))(hm:ms.length=size):Qr w e size P (.slice (if cap=1 then some ⟨g,off,none⟩ else some ⟨g,off+size,none⟩) n (cap-1)) n xs:=by
 subst hm;rcases h.2 with⟨_,h3⟩|⟨g',off',cap',cur,hv,hR,hg,h4,h5,h6,h7⟩
 ·omega
 ·injection hv with hv _ hc;injection hv with hv;injection hv with h1 h2;subst h1 h2 hc;have:=Qr.pop (w':=w) (R:=P) h.1 (Nat.succ_pos n) hR h4 h5 h6 h7 hg rfl rfl;rw[List.drop_left,Nat.add_sub_cancel] at this;exact this
theorem Rt.take(h:Rt A C R w ads Xs lv Ls cv cs){k:Nat}(hk:k<Ls.length)(x:Rms)(rest:List Rms)(hq:(gE Ls k).q=x::rest){qg qo:Nat}(hqa:(gE Ls k).qad=some ⟨qg,qo,none⟩){g off lc:Nat}(hlv:lv=.slice (some ⟨g,off,none⟩) Ls.length lc):∃qa',qa'=(if(gE Ls k).qcap=1 then some ⟨qg,qo,none⟩ else some ⟨qg,qo+5,none⟩)/\Rt A C R (w.setCell ⟨g,off+(k*4+2),none⟩ (.slice qa' rest.length ((gE Ls k).qcap-1))) ads Xs lv (Ls.set k (uG (gE Ls k) rest qa' ((gE Ls k).qcap-1))) cv cs/\Fr R R w (w.setCell ⟨g,off+(k*4+2),none⟩ (.slice qa' rest.length ((gE Ls k).qcap-1))):=by have QQ:=h.l.qu k hk;rw[hq,hqa,bA,cQ] at QQ;have Q2:=QQ.tail (Fk x);refine⟨_,rfl,?_⟩;exact h.wlink hk (uG (gE Ls k) rest (if(gE Ls k).qcap=1 then some ⟨qg,qo,none⟩ else some ⟨qg,qo+5,none⟩) ((gE Ls k).qcap-1)) 2 _ (qT _ _ _ Ls k hk) Q2 (fun y hy=>h.l.ms _ (kG hk) y (by rw[hq];exact bE _ hy)) (h.l.td (gE Ls k) (kG hk)) hlv
end
theorem Aw(x:Rms):∃j0 k1 k2 a3 n3 c3 a4 n4 c4,iB x=[.int .i64 j0,.int .i64 k1,.int .i64 k2,.slice a3 n3 c3,.slice a4 n4 c4]:=by unfold iB;split<;>exact⟨_,_,_,_,_,_,_,_,_,rfl⟩
theorem aA7(h:z.length=16):∃z0 z1 z2 z3 z4 z5 z6 z7 z8 z9 z10 z11 z12 z13 z14 z15,z=[z0,z1,z2,z3,z4,z5,z6,z7,z8,z9,z10,z11,z12,z13,z14,z15]:=by
 match z,h with
 |[z0,z1,z2,z3,z4,z5,z6,z7,z8,z9,z10,z11,z12,z13,z14,z15],_=>exact⟨_,_,_,_,_,_,_,_,_,_,_,_,_,_,_,_,rfl⟩
def Rst(TB g off n lc k:Nat)(v v':Value)(j:Nat)(x:Value)(_w:World):Prop:=
 match j with
 |0=>x=.pointer (some ⟨TB,0,none⟩)
 |1=>x=.pointer (some ⟨TB,0,none⟩)
 |2=>x=.pointer (some ⟨TB,1,none⟩)
 |3=>x=.slice (some ⟨g,off,none⟩) n lc
 |4=>x=.int .i64 k
 |5=>x=.pointer (some ⟨TB,0,none⟩)
 |6=>x=.pointer (some ⟨TB,0,none⟩)
 |7=>x=.pointer (some ⟨TB,1,none⟩)
 |8=>x=.slice (some ⟨g,off,none⟩) n lc
 |9=>x=.int .i64 k
 |10=>x=.pointer (some ⟨g,off+k*4,none⟩)
 |11=>x=.pointer (some ⟨g,off+k*4+2,none⟩)
 |12=>x=v
 |13=>x=v'
 |14=>x=.pointer (some ⟨g,off+k*4,none⟩)
 |15=>x=.pointer (some ⟨g,off+k*4+2,none⟩)
 |_=>True
theorem Rst.st{TB g off n lc k:Nat}{v:Value}(j:Nat)(x:Value)(wa wb:World)(h:Rst TB g off n lc k v v' j x wa):Rst TB g off n lc k v v' j x wb:=by unfold Rst at h ⊢;split<;>first|exact h|trivial
theorem Sm.pop{s:Ts}(h:Sm T s)(a b:Nat):Sm T (s.pop a b):=by
 refine⟨h.h,fun x y=>?_⟩;have:=h.q x y;simp only[TS.pop];split
 ·rw[List.length_tail];omega
 ·exact this
theorem Rv.pop{s:Ts}(h:Rv T Xs Ls s){k a b:Nat}(hk:k<Ls.length)(ha:(gE Ls k).fr=a)(hb:(gE Ls k).to=b){x:Rms}{rest:List Rms}(hq:(gE Ls k).q=x::rest)(qa:Option Addr)(qc:Nat):Rv T Xs (Ls.set k (uG (gE Ls k) rest qa qc)) (s.pop a b):=by refine⟨h.held,?_⟩;have hx:=xH h.lk hk;rw[tM,h.lk,<-Oo hx ha hb];congr 1;simp[Rln.av,uG,hq]
theorem Rf{l:List Hw}(h:X.map (·.1)=l)(hs:Srt l):SrM X:=by rw[<-h] at hs;exact cB.1 hs
theorem Rv.find{s:Ts}(h:Rv T Xs Ls s){a b:Nat}(ha:a<T.nb)(hb:b<T.nb)(hab:T.adj a b=true):∃k,k<Ls.length/\(gE Ls k).av=⟨a,b,s.q a b,rD (told cov (s.held a) b)⟩/\∀j,j<Ls.length->(gE Ls j).fr=a->(gE Ls j).to=b->j=k:=by
 obtain⟨k,hk,hkk⟩:=bG (Zu ha hb hab);have hl:Ls.length=(lks T).length:=by have:=congrArg List.length h.lk;rwa[aB,mD] at this
 have hav:∀j (hj:j<Ls.length),(gE Ls j).av=⟨((lks T)[j]'(by omega)).1,((lks T)[j]'(by omega)).2,s.q ((lks T)[j]'(by omega)).1 ((lks T)[j]'(by omega)).2,rD (told cov (s.held ((lks T)[j]'(by omega)).1) ((lks T)[j]'(by omega)).2)⟩:=by intro j hj;have e:=xH h.lk hj;unfold jC at e;rw[aO,aJ (by omega)] at e;injection e with e;exact e.symm
 refine⟨k,by omega,by rw[hav k (by omega),hkk],fun j hj h1 h2=>?_⟩;have e:=Ic (hav j hj);have hp:(lks T)[j]'(by omega)=(a,b):=Prod.ext (e.1.symm.trans h1) (e.2.1.symm.trans h2);have nd:=bZ.1 (Sz T);rcases eC j k with hlt|hlt|hlt
 ·exact absurd (by rw[hp,hkk]) (nd j k (by omega) hk hlt)
 ·exact hlt
 ·exact absurd (by rw[hp,hkk]) (nd k j hk (by omega) hlt)
theorem Wh(A:Nat->Prop)(C:Rc)(T:Tc)(R:Nat->Rl)(w:World)(cs:List (Pc (List Atr)))(s:Ts)(a b:Nat)(m:Ms (List Wnt) (List Atr))(rs:List (Ms (List Wnt) (List Atr)))(hT:Rw A C T R w cs s)(ha:a<T.nb)(hb:b<T.nb)(hab:T.adj a b=true)(hq:s.q a b=m::rs)(hne:∀e,m=.ev e->∀(W:World)(R':Nat->Rl)(ead:Option Addr)(ecap:Nat),Rw A C T R' W cs (s.pop a b)->EvO A W ead e->Calls prog 54 #[.pointer (some ⟨C.TB,0,none⟩),.int .i64 b,.int .i64 a,.int .i64 0,.slice ead e.length ecap] W fun x w'=>x=.returned (.tuple #[])/\∃R2,Rw A C T R2 w' (hrs mat (s.held b) a m cs) (s.nstep cov T.adj mat a b m)/\Fr R' R2 W w')(hs:Srt (s.held b))(hm:Sm T s)(hm':((s.nstep cov T.adj mat a b m).held b).length<=1048576):Calls prog 27 #[.pointer (some ⟨C.TB,0,none⟩),.int .i64 a,.int .i64 b] w fun e w'=>e=.returned (.int .i64 0)/\∃R',Rw A C T R' w' (hrs mat (s.held b) a m cs) (s.nstep cov T.adj mat a b m)/\Fr R R' w w':=by
 obtain⟨ads,Xs,lv,Ls,cv,rc,rt,hnb,rv,hcs⟩:=hT;obtain⟨k0,hk0,hav0,huni⟩:=rv.find ha hb hab;have hn64:=rv.n64 (by rw[<-hnb];exact rt.b.nb8);have hnb8:=rt.b.nb8;obtain⟨la,lc,rfl⟩:=rt.lshape;have HRT:=hZ rt;have HRV:=hZ rv;have HUN:=hZ huni;have HAV:=hZ hav0;have HQ:=hZ hq;have HNE:=hZ hne;have HS:=hZ hs;have HM:=hZ hm;have HM':=hZ hm';have HCS:=hZ hcs;clear rt rv huni hav0 hq hne hs hm hm' hcs;have t1:=HRT.c1;have htl:=HRT.tlt;go_enter func27,ntmps27;go_wp2_with fail;go_loopw [7] (fun i wr=>∃q:Nat,q<=k0/\i=.int .i64 q/\Hid (Gr w wr)) (fun i _=>Ls.length-(intOf i).toNat);case atStart=>exact⟨0,zZ,rfl,gZ⟩
 case round=>
  clear t1;obtain⟨q,hqk,rfl,G⟩:=hrel;have hql:q<Ls.length:=by omega
  have t1:=(HRT.gr G.out).c1;obtain⟨g,off,rfl,hg,c0,c1,c2,c3⟩:=(HRT.gr G.out).l.lk.rowAt.lnk (j:=q) hql;by_cases hqe:q=k0
  ·subst hqe;obtain⟨e1,e2,e3,_⟩:=Ic HAV.out;simp only at e1 e2 e3;rw[HQ.out] at e3;obtain⟨x,rest,eq,ex,er⟩:=eU.1 e3;rw[e1] at c0;rw[e2] at c1;have QQ:=(HRT.gr G.out).l.qu q hql;(have hlen:(gE Ls q).q.length=rest.length+1:=by rw[eq];rfl);rw[hlen] at c2;have QQ2:=QQ;rw[hlen] at QQ2;obtain⟨qg,qo,qc,qcur,hqv,_,hqg,_,hqcap⟩:=QQ2.some' (Nat.succ_pos _);injection hqv with hqa _ hqc;rw[hqa,hqc] at c2;have HQA:=hZ hqa;have HE:=hZ (And.intro eq (And.intro ex er));obtain⟨g',off3,cap3,cur3,eg,_,hgb,_⟩:=(HRT.gr G.out).l.lk.some' (by omega);injection eg with eg _ e9;injection eg with eg;injection eg with eg1 eg2;subst eg1 eg2 e9;have fz:=vF hgb (off+q*4+2);rw[eq,bA,cQ,hqa] at QQ;have hqs:qg<wr.heap.size:=fZ hqg;obtain⟨j0,k1,k2,a3,n3,c3',a4,n4,c4,hy⟩:=Aw x;rw[hy] at QQ;have d0:wr.cell? ⟨qg,qo,none⟩=some (.int .i64 j0):=QQ.cellAt (j:=0) rfl;have d1:wr.cell? ⟨qg,qo+1,none⟩=some (.int .i64 k1):=QQ.cellAt (j:=1) rfl;have d2:wr.cell? ⟨qg,qo+1+1,none⟩=some (.int .i64 k2):=QQ.cellAt (j:=2) rfl;have d3:wr.cell? ⟨qg,qo+1+1+1,none⟩=some (.slice a3 n3 c3'):=QQ.cellAt (j:=3) rfl;have d4:wr.cell? ⟨qg,qo+1+1+1+1,none⟩=some (.slice a4 n4 c4):=QQ.cellAt (j:=4) rfl;have hgl:g<wr.heap.size:=hg;have HYY:=hZ hy;(have hqk1:rest.length+1<=qc:=by omega);clear hy QQ QQ2 hqg hgb HUN e3 hlen;go_wp2_with fail;have GW:=hZ ((Gr.refl wr).alloc (.cells #[.int .i64 j0,.int .i64 k1,.int .i64 k2,.slice a3 n3 c3',.slice a4 n4 c4] 152));have P0:=hZ (fY wr (.cells #[.int .i64 j0,.int .i64 k1,.int .i64 k2,.slice a3 n3 c3',.slice a4 n4 c4] 152));generalize wr.alloc (.cells #[.int .i64 j0,.int .i64 k1,.int .i64 k2,.slice a3 n3 c3',.slice a4 n4 c4] 152)=W1 at *;have ht':C.TB<wr.heap.size:=G.lt htl;have t1':=((gP GW.out).1 _ 1 ht').trans t1;have c2':W1.cell? ⟨g,off+q*4+2,none⟩=some (.slice (some ⟨qg,qo,none⟩) (rest.length+1) qc):=((gP GW.out).1 _ (off+q*4+2) hgl).trans c2;have fz':=((gP GW.out).2 _ (off+q*4+2) hgl).trans fz;(have q0:(0:Int)<=(q:Int):=by omega);(have ql:(q:Int)<(Ls.length:Int):=by omega);clear t1 c0 c1 c2 c3 fz d0 d1 d2 d3 d4;refine oP rfl 16 (by rfl) (fun i=>62+i) (fun i _ j _ h=>by omega) (Rst C.TB g off Ls.length lc q (.slice (some ⟨qg,qo,none⟩) (rest.length+1) qc) (.slice (if qc=1 then some ⟨qg,qo,none⟩ else some ⟨qg,qo+5,none⟩) rest.length (qc-1))) (Ef0 _ 62 16) (fun w'=>w'=W1.drew) (fun _ wa wb=>wb=wa) (fun a i x hi h=>Ef0.put (by simp) a i x hi h) (fun a h i hi=>by have:=h.sz (by simp);simp at this;omega) (fun i wa wb h g=>g.trans h) (fun i j x wa wb _ h _=>Rst.st j x wa wb h) ?front ?last (Ef0.start _ 62 16 (by simp)) rfl;case front=>
    intro i o a' wz ho hi' hE hW hd K hK;have t0:a'.tmps[0]?.getD undef=.pointer (some ⟨C.TB,0,none⟩):=(evn a' 0).symm.trans (hE.at_ (by simp) (by omega));have t7:a'.tmps[7]?.getD undef=.int .i64 q:=(evn a' 7).symm.trans (hE.at_ (by simp) (by omega));(have z1:wz.cell? ⟨C.TB,1,none⟩=some (.slice (some ⟨g,off,none⟩) Ls.length lc):=by rw[hW];exact t1');(have z2:wz.cell? ⟨g,off+q*4+2,none⟩=some (.slice (some ⟨qg,qo,none⟩) (rest.length+1) qc):=by rw[hW];exact c2');clear hE hW
    match i,ho,hi',hd,hK with
    |0,ho,_,hd,hK=>obtain rfl:=oZ ho;clear hd;unfold Oper.wp;go_simp;exact hK _ _ rfl rfl
    |1,ho,_,hd,hK=>obtain rfl:=oZ ho;have e0:a'.eval (.tmp 62)=.pointer (some ⟨C.TB,0,none⟩):=hd ⟨0,.data⟩ (by simp) rfl;rw[evn] at e0;clear hd;unfold Oper.wp;go_simp;exact hK _ _ rfl rfl
    |2,ho,_,hd,hK=>obtain rfl:=oZ ho;have e0:a'.eval (.tmp 63)=.pointer (some ⟨C.TB,0,none⟩):=hd ⟨1,.data⟩ (by simp) rfl;rw[evn] at e0;clear hd;unfold Oper.wp;go_simp;exact hK _ _ rfl rfl
    |3,ho,_,hd,hK=>obtain rfl:=oZ ho;have e0:a'.eval (.tmp 64)=.pointer (some ⟨C.TB,1,none⟩):=hd ⟨2,.data⟩ (by simp) rfl;rw[evn] at e0;clear hd;unfold Oper.wp;go_simp;exact hK _ _ rfl rfl
    |4,ho,_,hd,hK=>obtain rfl:=oZ ho;clear hd;unfold Oper.wp;go_simp;exact hK _ _ rfl rfl
    |5,ho,_,hd,hK=>obtain rfl:=oZ ho;clear hd;unfold Oper.wp;go_simp;exact hK _ _ rfl rfl
    |6,ho,_,hd,hK=>obtain rfl:=oZ ho;have e0:a'.eval (.tmp 67)=.pointer (some ⟨C.TB,0,none⟩):=hd ⟨5,.data⟩ (by simp) rfl;rw[evn] at e0;clear hd;unfold Oper.wp;go_simp;exact hK _ _ rfl rfl
    |7,ho,_,hd,hK=>obtain rfl:=oZ ho;have e0:a'.eval (.tmp 68)=.pointer (some ⟨C.TB,0,none⟩):=hd ⟨6,.data⟩ (by simp) rfl;rw[evn] at e0;clear hd;unfold Oper.wp;go_simp;exact hK _ _ rfl rfl
    |8,ho,_,hd,hK=>obtain rfl:=oZ ho;have e0:a'.eval (.tmp 69)=.pointer (some ⟨C.TB,1,none⟩):=hd ⟨7,.data⟩ (by simp) rfl;rw[evn] at e0;clear hd;unfold Oper.wp;go_simp;exact hK _ _ rfl rfl
    |9,ho,_,hd,hK=>obtain rfl:=oZ ho;clear hd;unfold Oper.wp;go_simp;exact hK _ _ rfl rfl
    |10,ho,_,hd,hK=>obtain rfl:=oZ ho;have e0:a'.eval (.tmp 70)=.slice (some ⟨g,off,none⟩) Ls.length lc:=hd ⟨8,.data⟩ (by simp) rfl;have e1:a'.eval (.tmp 71)=.int .i64 q:=hd ⟨9,.data⟩ (by simp) rfl;rw[evn] at e0 e1;clear hd;unfold Oper.wp;go_simp;exact hK _ _ rfl rfl
    |11,ho,_,hd,hK=>obtain rfl:=oZ ho;have e0:a'.eval (.tmp 72)=.pointer (some ⟨g,off+q*4,none⟩):=hd ⟨10,.data⟩ (by simp) rfl;rw[evn] at e0;clear hd;unfold Oper.wp;go_simp;exact hK _ _ rfl rfl
    |12,ho,_,hd,hK=>obtain rfl:=oZ ho;have e0:a'.eval (.tmp 73)=.pointer (some ⟨g,off+q*4+2,none⟩):=hd ⟨11,.data⟩ (by simp) rfl;rw[evn] at e0;clear hd;unfold Oper.wp;go_simp;exact hK _ _ rfl rfl
    |13,ho,_,hd,hK=>obtain rfl:=oZ ho;have e0:a'.eval (.tmp 74)=.slice (some ⟨qg,qo,none⟩) (rest.length+1) qc:=hd ⟨12,.data⟩ (by simp) rfl;rw[evn] at e0;clear hd;(have hl1:(1:Int)<=(rest.length:Int)+1:=by omega);unfold Oper.wp;go_simp;exact hK _ _ rfl rfl
    |14,ho,_,hd,hK=>obtain rfl:=oZ ho;have e0:a'.eval (.tmp 65)=.slice (some ⟨g,off,none⟩) Ls.length lc:=hd ⟨3,.data⟩ (by simp) rfl;have e1:a'.eval (.tmp 66)=.int .i64 q:=hd ⟨4,.data⟩ (by simp) rfl;rw[evn] at e0 e1;clear hd;unfold Oper.wp;go_simp;exact hK _ _ rfl rfl
    |15,ho,_,hd,hK=>obtain rfl:=oZ ho;have e0:a'.eval (.tmp 76)=.pointer (some ⟨g,off+q*4,none⟩):=hd ⟨14,.data⟩ (by simp) rfl;rw[evn] at e0;clear hd;unfold Oper.wp;go_simp;exact hK _ _ rfl rfl
    |k'+16,_,hi',_,_=>exact absurd hi' (by omega)
   case last=>
    intro o a' wz ho hE hW hd K hK;obtain rfl:=oZ ho;have e15:a'.eval (.tmp 77)=.pointer (some ⟨g,off+q*4+2,none⟩):=hd 15 (by omega);have e13:a'.eval (.tmp 75)=.slice (if qc=1 then some ⟨qg,qo,none⟩ else some ⟨qg,qo+5,none⟩) rest.length (qc-1):=hd 13 (by omega);(have z2:wz.cell? ⟨g,off+q*4+2,none⟩=some (.slice (some ⟨qg,qo,none⟩) (rest.length+1) qc):=by rw[hW];exact c2');(have zf:wz.frozen? ⟨g,off+q*4+2,none⟩=false:=by rw[hW];exact fz');(have GZ:Hid (Gr wr wz):=by rw[hW];exact GW.drew);(have PZ:Hid (wz.heap[wr.heap.size]?=some (.cells #[.int .i64 j0,.int .i64 k1,.int .i64 k2,.slice a3 n3 c3',.slice a4 n4 c4] 152 (0,0))):=by rw[hW];exact P0.out);have hdf:=hE.df;obtain⟨z,hz,hts⟩:=hE.ts;have HTS:=hZ (And.intro hz (And.intro hts hdf));clear hz hts hdf hd hE hW ho GW P0 t1' c2' fz';rw[evn] at e15 e13;obtain⟨eq,ex,er⟩:=HE.out;obtain⟨qa',hqa',RT2,FR2⟩:=(HRT.gr (Gr.call G.out GZ.out)).take hql x rest eq HQA.out rfl;rw[hqc] at hqa' RT2 FR2;rw[<-dH] at RT2 FR2;rw[<-hqa'] at e13;have RV2:=hZ (HRV.pop hql e1 e2 eq qa' (qc-1));have HR2:=hZ RT2;have HF2:=hZ FR2;have PS:Hid ((wz.setCell ⟨g,off+q*4+2,none⟩ (.slice qa' rest.length (qc-1))).heap[wr.heap.size]?=some (.cells #[.int .i64 j0,.int .i64 k1,.int .i64 k2,.slice a3 n3 c3',.slice a4 n4 c4] 152 (0,0))):=(Below.heap_setCell wz _ _ _ (by show wr.heap.size≠g;omega)).trans PZ.out;have FXY:Hid (sF A (wz.setCell ⟨g,off+q*4+2,none⟩ (.slice qa' rest.length (qc-1))) x):=sF.keep ((HRT.gr (Gr.call G.out GZ.out)).l.ms _ (kG hql) x (by rw[eq];exact bC)) HF2.size (fun k hk ha=>HF2.keep k hk (Or.inl (HRT.b.aR k ha)));clear RT2 FR2 hqa';unfold Oper.wp;go_simp;refine hK _ _ ?_;clear e15 e13 hK z2 zf;obtain⟨hz,hts,hdf⟩:=HTS.out;obtain⟨z0,z1',z2',z3',z4,z5,z6,z7,z8,z9,z10,z11,z12,z13,z14,z15,rfl⟩:=aA7 hz;obtain⟨tm,df⟩:=a';simp only at hts hdf;subst hts hdf;clear hz HTS;simp only[bP,bY,bQ,bX,bD,bM];have hxx:=HYY.out;generalize hW3:wz.setCell ⟨g,off+q*4+2,none⟩ (.slice qa' rest.length (qc-1))=W3 at *;have F3:Hid (Fr R R w W3):=(Fr.gr (Gr.call G.out GZ.out)).trans HF2.out;clear hW3 HF2 GZ PZ;(have hbC:b<C.nb:=by omega);(have hXb:(Xs b).length<=1048576:=by have e:=congrArg List.length (HRV.held b hb);rw[aB] at e;rw[e];exact HM.h b hb);cases m with
    |ev e=>
     (have hy':iB x=[.int .i64 3,.int .i64 0,.int .i64 0,.slice none 0 0,.slice x.ad e.length x.cap]:=by unfold iB;rw[ex]);rw[hy'] at hxx;simp only[dJ,Value.int.injEq,Value.slice.injEq,true_and,and_true] at hxx;obtain⟨rfl,rfl,rfl,⟨rfl,rfl,rfl⟩,rfl,rfl,rfl⟩:=hxx;have p0:W3.cell? ⟨wr.heap.size,0,none⟩=some (.int .i64 3):=by rw[cZ PS.out];rfl
     (have p4:W3.cell? ⟨wr.heap.size,4,none⟩=some (.slice x.ad e.length x.cap):=by rw[cZ PS.out];rfl);clear hy' HYY;have EX3:Hid (EvO A W3 x.ad e):=by have h:=FXY.out;unfold sF at h;rw[ex] at h;exact h
     have CM:=hZ (HNE e rfl W3 R x.ad x.cap ⟨ads,Xs,_,_,cv,rc,HR2.out,hnb,RV2.out,HCS.out⟩ EX3.out);clear EX3;go_wp2_with fail;refine CM.mono ?_;rintro e' w4 ⟨rfl,R4,q1,q2⟩;have FIN:=hZ (And.intro q1 (F3.trans q2));clear q1 q2 CM;go_wp2_with fail;go_ret;exact⟨rfl,R4,FIN.out⟩
    |uns kk=>
     (have hy':iB x=[.int .i64 2,.int .i64 kk.1,.int .i64 kk.2,.slice none 0 0,.slice none 0 0]:=by unfold iB;rw[ex]);rw[hy'] at hxx;simp only[dJ,Value.int.injEq,Value.slice.injEq,true_and,and_true] at hxx;obtain⟨rfl,rfl,rfl,⟨rfl,rfl,rfl⟩,rfl,rfl,rfl⟩:=hxx;have p0:W3.cell? ⟨wr.heap.size,0,none⟩=some (.int .i64 2):=by rw[cZ PS.out];rfl
     (have p1:W3.cell? ⟨wr.heap.size,1,none⟩=some (.int .i64 kk.1):=by rw[cZ PS.out];rfl);have p2:W3.cell? ⟨wr.heap.size,1+1,none⟩=some (.int .i64 kk.2):=by rw[cZ PS.out];rfl
     clear hy' HYY;have HXL:Hid ((mV kk (Xs b)).length<=1048576):=aA (aX _ _) hXb;have D1:=hZ (Yr HR2.out hbC kk hXb);go_wp2_with fail;refine D1.mono ?_;rintro e w4 ⟨rfl,R4,ads4,rt4,fr4⟩;have CH:=hZ (pH A C R4 w4 ads4 _ _ cv _ rc rt4 b hbC (by simp only[if_true];exact HXL.out) (RV2.qlen (HM.pop a b)) (by rw[bR];exact hn64));have F4:=hZ (F3.trans fr4);clear rt4 fr4 D1;go_wp2_with fail;refine CH.mono ?_;rintro e w5 ⟨rfl,R5,L5,rt5,fr5,hm5⟩;simp only[if_true] at hm5;have FIN:Hid (∃R',Rw A C T R' w5 cs (s.nstep cov T.adj mat a b (.uns kk))/\Fr R R' w w5):=⟨R5,⟨ads4,_,_,L5,cv,rc,rt5,hnb,RV2.turn b (mV kk (Xs b)) _ (by rw[Hj,HRV.held b hb]) hm5,HCS.out⟩,F4.trans fr5⟩;clear rt5 fr5 hm5 CH;go_wp2_with fail;go_ret;exact⟨rfl,FIN.out⟩
    |sub kk f=>
     (have hy':iB x=[.int .i64 1,.int .i64 kk.1,.int .i64 kk.2,.slice x.ad f.length x.cap,.slice none 0 0]:=by unfold iB;rw[ex]);rw[hy'] at hxx;simp only[dJ,Value.int.injEq,Value.slice.injEq,true_and,and_true] at hxx;obtain⟨rfl,rfl,rfl,⟨rfl,rfl,rfl⟩,rfl,rfl,rfl⟩:=hxx;have p0:W3.cell? ⟨wr.heap.size,0,none⟩=some (.int .i64 1):=by rw[cZ PS.out];rfl
     (have p1:W3.cell? ⟨wr.heap.size,1,none⟩=some (.int .i64 kk.1):=by rw[cZ PS.out];rfl);have p2:W3.cell? ⟨wr.heap.size,1+1,none⟩=some (.int .i64 kk.2):=by rw[cZ PS.out];rfl
     (have p3:W3.cell? ⟨wr.heap.size,3,none⟩=some (.slice x.ad f.length x.cap):=by rw[cZ PS.out];rfl);clear hy' HYY;have FX3:Hid (FiO A W3 x.ad f):=by have h:=FXY.out;unfold sF at h;rw[ex] at h;exact h
     have HXE:=hZ ((Sf (⟨kk,f,(a:Int)⟩,x.ad,x.cap) (Xs b)).trans (by rw[HRV.held b hb]));(have HXL:Hid ((pE (⟨kk,f,(a:Int)⟩,x.ad,x.cap) (Xs b)).length<=1048576):=by have e:=congrArg List.length HXE.out;rw[aB] at e;have h:=HM'.out;show _<=_;rw[e];simpa[TS.nstep,TS.arr,TS.turn] using h);have D1:=hZ (aAS HR2.out hbC (⟨kk,f,(a:Int)⟩,x.ad,x.cap) FX3.out hXb (Rf (HRV.held b hb) HS.out));go_wp2_with fail;refine D1.mono ?_;rintro e w4 ⟨rfl,R4,ads4,rt4,fr4⟩;have CH:=hZ (pH A C R4 w4 ads4 _ _ cv _ rc rt4 b hbC (by simp only[if_true];exact HXL.out) (RV2.qlen (HM.pop a b)) (by rw[bR];exact hn64));have F4:=hZ (F3.trans fr4);clear rt4 fr4 D1;go_wp2_with fail;refine CH.mono ?_;rintro e w5 ⟨rfl,R5,L5,rt5,fr5,hm5⟩;simp only[if_true] at hm5;have FIN:Hid (∃R',Rw A C T R' w5 cs (s.nstep cov T.adj mat a b (.sub kk f))/\Fr R R' w w5):=⟨R5,⟨ads4,_,_,L5,cv,rc,rt5,hnb,RV2.turn b (pE (⟨kk,f,(a:Int)⟩,x.ad,x.cap) (Xs b)) _ (HXE.out) hm5,HCS.out⟩,F4.trans fr5⟩;clear rt5 fr5 hm5 CH;go_wp2_with fail;go_ret;exact⟨rfl,FIN.out⟩
  ·have hne':¬((gE Ls q).fr=a/\(gE Ls q).to=b):=fun⟨h1,h2⟩=>hqe (HUN q hql h1 h2);(have hqk':q+1<=k0:=by omega);clear hqe hqk;generalize gE Ls q=l at *;by_cases e1:l.fr=a
   ·(have e2:((l.to:Int)==(b:Int))=false:=by simp;intro h;exact hne' ⟨e1,by omega⟩);rw[e1] at c0;clear hne' e1;go_wp2_with fail;all_goals exact⟨⟨q+1,hqk',by simp,G⟩,gD _ _ hql⟩
   ·(have e2:((l.fr:Int)==(a:Int))=false:=by simp;omega);clear hne' e1;go_wp2_with fail;all_goals exact⟨⟨q+1,hqk',by simp,G⟩,gD _ _ hql⟩
open Go.Maps (Keyed)
def kB(T:Tc)(x:Ts×List (Pc (List Atr))):Option (Ts×List (Pc (List Atr))):=
 match xD (jG T x.1 T.nb) with
 |none=>none
 |some y=>
  match x.1.q y.1 y.2.1 with
  |[]=>none
  |m::_=>some (x.1.nstep cov T.adj mat y.1 y.2.1 m,hrs mat (x.1.held y.2.1) y.1 m x.2)
def drn(T:Tc):Nat->Ts×List (Pc (List Atr))->Option (Ts×List (Pc (List Atr)))
 |0,x=>some x
 |n+1,x=>(drn T n x).bind (kB T)
theorem Ad{T:Tc}{x y:Ts×List (Pc (List Atr))}{c:Nat}(h:drn T c x=some y)(hy:kB T y=none):∀d,drn T (c+1+d) x=none
 |0=>by show(drn T c x).bind (kB T)=none;rw[h];exact hy
 |d+1=>by show(drn T (c+1+d) x).bind (kB T)=none;rw[Ad h hy d];rfl
theorem Mx{x y z:Ts×List (Pc (List Atr))}{c d:Nat}(h:drn T c x=some y)(hy:kB T y=none)(k:drn T d x=some z)(hz:kB T z=none):c=d/\y=z:=by
 rcases eC c d with hcd|hcd|hcd
 ·have:=Ad h hy (d-(c+1));rw[show c+1+(d-(c+1))=d by omega,k] at this;cases this
 ·subst hcd;rw[h] at k;injection k with k;exact⟨rfl,k⟩
 ·have:=Ad k hz (c-(d+1));rw[show d+1+(c-(d+1))=c by omega,h] at this;cases this
theorem Yo(T:Tc)(r:Nat->Rl)(w:World)(cs:List (Pc (List Atr)))(s:Ts)(nxt:Nat->Nat->Int)(rank:Nat->Nat->Nat)(home:Int->Nat)(Ks:List Ky)(n M:Nat)(hT:Tf T r w cs s)(S:Sh T nxt rank)(G:Gd T nxt rank home Ks s cs n M)(hK:Ks.length<=1048576)(hM:M<549755813888):Calls prog 28 #[.pointer (some ⟨T.TB,0,none⟩)] w fun e w'=>∃k s' cs' r' n',e=.returned (.int .i64 (k:Nat))/\drn T k (s,cs)=some (s',cs')/\kB T (s',cs')=none/\Tf T r' w' cs' s'/\Gd T nxt rank home Ks s' cs' n' M/\k+n'<=n/\Fr r r' w w':=by
 have HT:=hZ hT;have HS:=hZ S;have HG:=hZ G;have HAD:=hZ hT.b.adj;have hnM:n<549755813888:=Nat.lt_of_le_of_lt G.le hM;have HK:=hZ hK;have HM:=hZ hM;clear hT S G hK hM;go_enter func28,ntmps28;go_wp2_with fail;go_loopg [3] n (fun k v wr=>∃(c:Nat)(s':Ts)(cs':List (Pc (List Atr)))(r':Nat->Rl),v=.int .i64 c/\c+k<=n/\Hid (Gd T nxt rank home Ks s' cs' k M)/\Hid (drn T c (s,cs)=some (s',cs'))/\Hid (Tf T r' wr cs' s')/\Hid (Fr r r' w wr));case atStart=>exact⟨0,s,cs,r,rfl,by omega,HG,rfl,HT,Fr.refl _ _⟩
 case round=>
  obtain⟨c,s',cs',r',rfl,hck,G2,RN,T2,F2⟩:=hrel;have SM2:=hZ (G2.sm HS.out HK.out HM.out);have FT:Hid (Calls prog 57 #[.pointer (some ⟨T.TB,0,none⟩)] wr fun e w'=>e=.returned (Gz (xD (jG T s' T.nb)))/\Gr wr w'):=by obtain⟨cls,t,_⟩:=T2.out;exact Pe T r' wr cls s' t SM2.out
  cases hf:xD (jG T s' T.nb) with
  |none=>
   (have QT:Hid (kB T (s',cs')=none):=by show _=_;unfold kB;rw[hf]);rw[hf] at FT;go_wp2_with fail;refine FT.mono ?_;rintro e w1 ⟨rfl,g1⟩;unfold Gz;have T3:=hZ (T2.gr (g1.alloc (.cells #[.int .i64 0,.int .i64 0,.int .i64 0] 94)));have F3:=hZ (F2.trans (Fr.gr (g1.alloc (.cells #[.int .i64 0,.int .i64 0,.int .i64 0] 94))));have HCK:=hZ hck;clear FT g1;go_wp2_with fail;go_ret;exact⟨c,s',cs',r',_,rfl,RN.out,QT.out,T3.out,G2.out,HCK.out,F3.out⟩
  |some y=>
   have hy:=List.find?_some hf;have hym:=Jm (List.mem_of_find?_eq_some hf);simp only[decide_eq_true_eq] at hy;obtain⟨y1,y2,y3⟩:=y;simp only at hy hym;have hab:=hym.2.1;have hltn:=HAD _ _ hab;obtain⟨m,rs,hq⟩:∃m rs,s'.q y1 y2=m::rs:=by
    cases hq:s'.q y1 y2 with
    |nil=>rw[hq] at hym;simp at hym;omega
    |cons m rs=>exact⟨m,rs,rfl⟩
   obtain⟨k',hk',g'⟩:=G2.step HS.out hab hq;have G3:=hZ g';(have RN3:Hid (drn T (c+1) (s,cs)=some (s'.nstep cov T.adj mat y1 y2 m,hrs mat (s'.held y2) y1 m cs')):=by show _=_;rw[drn,RN.out];show kB T (s',cs')=_;unfold kB;rw[hf];simp only[hq]);have SP:Hid (∀w',Gr wr w'->Calls prog 26 #[.pointer (some ⟨T.TB,0,none⟩),.int .i64 y1,.int .i64 y2] w' fun e w2=>e=.returned (.int .i64 0)/\∃r2,Tf T r2 w2 (hrs mat (s'.held y2) y1 m cs') (s'.nstep cov T.adj mat y1 y2 m)/\Fr r' r2 w' w2):=fun w' g=>Vd T r' w' cs' s' nxt home okF y1 y2 m rs (T2.gr g) G2.I hab hq SM2.out (fun c hc=>⟨(G2.L c hc).1,by have:=(G2.L c hc).2.1;have:=HM.out;omega⟩);rw[hf] at FT;(have hk:c+1<=4611686018427387904:=by omega);have HK':=hZ hk';clear hf hym hy hq g' hk';go_wp2_with fail;refine FT.mono ?_;rintro e w1 ⟨rfl,g1⟩;unfold Gz;have g2:=g1.alloc (.cells #[.int .i64 (y1:Int),.int .i64 (y2:Int),.int .i64 (y3:Int)] 94);have SP2:=hZ (SP _ g2);have GG:=hZ g2;clear FT g1 g2 SP;go_wp2_with fail;refine SP2.mono ?_;rintro e w3 ⟨rfl,r2,z1,z2⟩;have T3:=hZ z1;have F3:=hZ ((F2.trans (Fr.gr GG.out)).trans z2);clear SP2 z1 z2 GG;go_wp2_with fail;go_roundg k';case measure=>exact HK'.out
   case rel=>exact⟨c+1,_,_,r2,by go_num,by have:=HK'.out;omega,G3,RN3,T3,F3⟩
theorem Jd(A:Nat->Prop)(C:Rc)(T:Tc)(R:Nat->Rl)(w:World)(cs:List (Pc (List Atr)))(s:Ts)(a b:Int)(hT:Rw A C T R w cs s)(hn:∀x y:Nat,(x:Int)=a->(y:Int)=b->T.adj x y=true->s.q x y=[])(hm:Sm T s):Calls prog 27 #[.pointer (some ⟨C.TB,0,none⟩),.int .i64 a,.int .i64 b] w fun e w'=>e=.returned (.int .i64 5)/\Gr w w':=by
 obtain⟨ads,Xs,lv,Ls,cv,rc,rt,hnb,rv,hcs⟩:=hT;have hn64:=rv.n64 (by rw[<-hnb];exact rt.b.nb8);obtain⟨la,lc,rfl⟩:=rt.lshape;have HNO:Hid (∀j,j<Ls.length->((gE Ls j).fr:Int)=a->((gE Ls j).to:Int)=b->(gE Ls j).q.length=0):=fun j hj h1 h2=>by have e:=xH rv.lk hj;obtain⟨_,h3,_,_,h5,_⟩:=kR e;have:=hn _ _ h1 h2 h3;have h6:=congrArg List.length h5;simp only[Rln.av,aB] at h6;rw[h6,this];rfl
 have HQL:=hZ (rv.qlen hm);have HRT:=hZ rt;have t1:=rt.c1;clear rt rv hcs hn hm;go_enter func27,ntmps27;go_wp2_with fail;go_loopw [7] (fun i wr=>∃q:Nat,q<=Ls.length/\i=.int .i64 q/\Hid (Gr w wr)) (fun i _=>Ls.length-(intOf i).toNat);case atStart=>exact⟨0,zZ,rfl,gZ⟩
 case round=>
  clear t1;obtain⟨q,hqk,rfl,G⟩:=hrel;have t1:=(HRT.gr G.out).c1;by_cases hql:q<Ls.length
  ·obtain⟨g,off,rfl,hg,c0,c1,c2,c3⟩:=(HRT.gr G.out).l.lk.rowAt.lnk (j:=q) hql;have hz:=HNO q hql;have hq1:=(HQL _ (kG hql)).1;clear HNO;generalize gE Ls q=l at *;by_cases e1:(l.fr:Int)=a
   ·by_cases e2:(l.to:Int)=b
    ·rw[e1] at c0;rw[e2] at c1;rw[hz e1 e2] at c2;clear hz e1 e2;go_wp2_with fail;all_goals exact⟨⟨q+1,hql,by simp,G⟩,gD _ _ hql⟩
    ·(have e3:((l.to:Int)==b)=false:=by simpa using e2);rw[e1] at c0;clear hz e1 e2;go_wp2_with fail;all_goals exact⟨⟨q+1,hql,by simp,G⟩,gD _ _ hql⟩
   ·(have e3:((l.fr:Int)==a)=false:=by simpa using e1);clear hz e1;go_wp2_with fail;all_goals exact⟨⟨q+1,hql,by simp,G⟩,gD _ _ hql⟩
  ·(have hqe:q=Ls.length:=by omega);subst hqe;go_wp2_with fail;go_ret;exact⟨rfl,G.out⟩
theorem zJ(T:Tc)(s:Ts):jG T s T.nb=(lks T).map fun p=>(p.1,p.2,(s.q p.1 p.2).length):=by unfold jG lks lk1;rw[List.map_flatMap];congr 1;funext a;rw[bV];rfl
theorem Rv.first{s:Ts}(h:Rv T Xs Ls s)(hj:j<Ls.length)(h0:∀i,i<j->(gE Ls i).q.length=0)(h1:0<(gE Ls j).q.length):xD (jG T s T.nb)=some ((gE Ls j).fr,(gE Ls j).to,(gE Ls j).q.length):=by
 have hl:(jG T s T.nb).length=Ls.length:=by have:=congrArg List.length h.lk;rw[aB,mD] at this;rw[zJ,aB];exact this.symm
 have at':∀i,i<Ls.length->lat (jG T s T.nb) i=((gE Ls i).fr,(gE Ls i).to,(gE Ls i).q.length):=by intro i hi;have e:=xH h.lk hi;obtain⟨a1,_,_,_,a5,_⟩:=kR e;have q:=congrArg List.length a5;simp only[Rln.av,aB] at q a1;unfold lat;rw[aI,zJ,aO,a1];simp only[dE,eV,q]
 have:=Mn (l:=jG T s T.nb) (j:=j) (by omega) (fun x hx=>by
  obtain⟨i,hi,rfl⟩:=bG hx;have hi':i<j:=by simp at hi;omega
  have:=at' i (by omega);rw[List.getElem_take];have e:(jG T s T.nb)[i]'(by omega)=lat (jG T s T.nb) i:=by unfold lat;rw[aI,aJ (by omega)];rfl
  rw[e,this];exact h0 i hi') (by rw[at' j hj];exact h1)
 rw[this,at' j hj]
theorem Rv.still{s:Ts}(h:Rv T Xs Ls s)(h0:∀i,i<Ls.length->(gE Ls i).q.length=0)(cs:List (Pc (List Atr))):kB T (s,cs)=none:=by
 have:xD (jG T s T.nb)=none:=by
  unfold xD;rw[List.find?_eq_none];intro x hx;rw[zJ] at hx;obtain⟨p,hp,rfl⟩:=aC.1 hx;obtain⟨k,hk,hkk⟩:=bG hp;have hl:Ls.length=(lks T).length:=by have:=congrArg List.length h.lk;rwa[aB,mD] at this
  have e:=xH h.lk (k:=k) (by omega);obtain⟨a1,_,_,_,a5,_⟩:=kR e;have q:=congrArg List.length a5;simp only[Rln.av,aB] at q a1;rw[aJ hk,hkk] at a1;injection a1 with a1;rw[a1];simp only[decide_eq_true_eq];rw[<-q,h0 k (by omega)];omega
 unfold kB;rw[this]
theorem aA6(h:z.length=17):∃z0 z1 z2 z3 z4 z5 z6 z7 z8 z9 z10 z11 z12 z13 z14 z15 z16,z=[z0,z1,z2,z3,z4,z5,z6,z7,z8,z9,z10,z11,z12,z13,z14,z15,z16]:=by
 match z,h with
 |[z0,z1,z2,z3,z4,z5,z6,z7,z8,z9,z10,z11,z12,z13,z14,z15,z16],_=>exact⟨_,_,_,_,_,_,_,_,_,_,_,_,_,_,_,_,_,rfl⟩
def Rdr(TB g off n lc k fr to:Nat)(j:Nat)(x:Value)(_w:World):Prop:=
 match j with
 |0=>x=.pointer (some ⟨TB,0,none⟩)
 |1=>x=.pointer (some ⟨TB,0,none⟩)
 |2=>x=.pointer (some ⟨TB,0,none⟩)
 |3=>x=.pointer (some ⟨TB,1,none⟩)
 |4=>x=.slice (some ⟨g,off,none⟩) n lc
 |5=>x=.int .i64 k
 |6=>x=.pointer (some ⟨g,off+k*4,none⟩)
 |7=>x=.pointer (some ⟨g,off+k*4,none⟩)
 |8=>x=.int .i64 fr
 |9=>x=.pointer (some ⟨TB,0,none⟩)
 |10=>x=.pointer (some ⟨TB,0,none⟩)
 |11=>x=.pointer (some ⟨TB,1,none⟩)
 |12=>x=.slice (some ⟨g,off,none⟩) n lc
 |13=>x=.int .i64 k
 |14=>x=.pointer (some ⟨g,off+k*4,none⟩)
 |15=>x=.pointer (some ⟨g,off+k*4+1,none⟩)
 |16=>x=.int .i64 to
 |_=>True
theorem Rdr.st{TB g off n lc k fr to:Nat}(j:Nat)(x:Value)(wa wb:World)(h:Rdr TB g off n lc k fr to j x wa):Rdr TB g off n lc k fr to j x wb:=by unfold Rdr at h ⊢;split<;>first|exact h|trivial
theorem Rw.c1{A:Nat->Prop}{C:Rc}{R:Nat->Rl}{w:World}{cs:List (Pc (List Atr))}{s:Ts}(h:Rw A C T R w cs s):∃la n lc,w.cell? ⟨C.TB,1,none⟩=some (.slice la n lc)/\n<=64:=by obtain⟨ads,Xs,lv,Ls,cv,rc,rt,hnb,rv,_⟩:=h;obtain⟨la,lc,rfl⟩:=rt.lshape;exact⟨la,_,lc,rt.c1,rv.n64 (by rw[<-hnb];exact rt.b.nb8)⟩
end Go.Proofs.YtecnfgikbmcgoabGreat
