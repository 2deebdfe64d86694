import Derived.Test.YtecnfgikbmcgoabGreatG37
import Derived.Test.YtecnfgikbmcgoabGreatG35
set_option maxHeartbeats 8000000
set_option maxRecDepth 100000
namespace Go.Proofs.YtecnfgikbmcgoabGreat
open Go.Proofs.Tryz
open Go.RowKit
variable {A B D:Nat->Prop}{BB M PB:Nat}{C:Rc}{T:Tc}{cs:List (Pc (List Atr))}{w w' wr:World}
def RiP(A:Nat->Prop)(C:Rc)(T:Tc)(R:Nat->Rl)(cs:List (Pc (List Atr)))(s:Ts)(c:Pc (List Atr))(w:World)(e:Ending)(w':World):Prop:=∃(bad:Option Addr)(bcap:Nat)(L:List Bev)(j:Nat),e=.returned (.tuple #[.slice bad L.length bcap,.int .i64 c.lost,.int .i64 0])/\L.map (·.1)=c.box/\Qr w' 41 1 (fun i=>R i=.ch j) (.slice bad L.length bcap) L.length (L.map bv)/\(∀x∈L,EvO A w' x.2.1 x.1)/\Rw A C T R w' (cs.map (mW c.num)) s/\Fr R R w w'
theorem Xw{rs:List Rcl}{j:Nat}(hj:j<rs.length){c:Rcl}(hc:pcR c=mW (kat rs j).num (pcR (kat rs j)))(hu:∀i,i<rs.length->i≠j->(kat rs i).num≠(kat rs j).num):(rs.set j c).map pcR=(rs.map pcR).map (mW (kat rs j).num):=by
 apply eP;intro i;rw[aO,aO,aO,dV];by_cases hi:i<rs.length
 ·have ek:kat rs i=rs[i]:=by unfold kat;rw[aI,aJ hi];rfl
  by_cases e:j=i
  ·subst e;rw[if_pos rfl,if_pos hi,aJ hi];simp only[dE];rw[hc,ek]
  ·rw[if_neg e,aJ hi];simp only[dE];have:=hu i hi (fun h=>e h.symm);rw[ek] at this;unfold mW;rw[if_neg (by simpa[pcR] using this)]
 ·rw[eN (l:=rs) (by omega)];by_cases e:j=i
  ·subst e;exact absurd hj hi
  ·rw[if_neg e];rfl
theorem Rz(A:Nat->Prop)(C:Rc)(T:Tc)(R:Nat->Rl)(w:World)(cs:List (Pc (List Atr)))(s:Ts)(c:Pc (List Atr))(hW:Rw A C T R w cs s)(hc:c∈cs)(huni:cs.Pairwise fun x y=>x.num≠y.num)(hcl:cs.length<=16):Calls prog 59 #[.pointer (some ⟨C.TB,0,none⟩),.int .i64 c.num] w fun x w'=>RiP A C T R cs s c w x w':=by
 obtain⟨ads,Xs,lv,Ls,cv,rc,rt,hnb,rv,hcs⟩:=hW;have hrl:rc.length<=16:=by have:=congrArg List.length hcs;rw[aB] at this;omega
 obtain⟨ca,cc,rfl⟩:=rt.k.cl.shape;have CL:=hZ (jU C.TB ca cc rc c.num w rt.c2 rt.k.cl.rowAt hrl);have HU:Hid (∀i,i<rc.length->∀j,j<rc.length->i≠j->(kat rc i).num≠(kat rc j).num):=fun i hi j hj hij=>by
  have pw:=bZ.1 huni;have ei:∀i (h:i<rc.length),(cs[i]'(by rw[<-hcs,aB];exact h)).num=(kat rc i).num:=fun i h=>by subst hcs;rw[List.getElem_map];unfold kat;rw[aI,aJ h];rfl
  have hl:cs.length=rc.length:=by rw[<-hcs,aB]
  rcases Nat.lt_or_gt_of_ne hij with h|h
  ·have:=pw i j (by omega) (by omega) h;rw[ei i hi,ei j hj] at this;exact this
  ·have:=pw j i (by omega) (by omega) h;rw[ei i hi,ei j hj] at this;exact fun e=>this e.symm
 have HJ:Hid (∀j,j<rc.length->(kat rc j).num=c.num->pcR (kat rc j)=c):=fun j hj hn=>by
  have hm1:pcR (kat rc j)∈cs:=by rw[<-hcs];exact aQ (kE hj)
  refine cO fun hne=>?_;obtain⟨i1,h1,e1⟩:=bG hm1;obtain⟨i2,h2,e2⟩:=bG hc;have pw:=bZ.1 huni;have hn':(pcR (kat rc j)).num=c.num:=hn;rcases eC i1 i2 with hlt|hlt|hlt
  ·exact pw i1 i2 h1 h2 hlt (by rw[e1,e2];exact hn')
  ·subst hlt;exact hne (e1.symm.trans e2)
  ·exact pw i2 i1 h2 h1 hlt (by rw[e1,e2];exact hn'.symm)
 have HIN:Hid (¬∀x∈rc,x.num≠c.num):=fun h=>by rw[<-hcs] at hc;obtain⟨x,hx,rfl⟩:=aC.1 hc;exact h x hx rfl
 have HRT:=hZ rt;have HRV:=hZ (And.intro hnb (And.intro rv hcs));clear rt rv hcs hc huni hnb;go_enter func59,ntmps59;go_wp2_with fail;refine CL.mono ?_;rintro e1 w1 ⟨hcase,hw⟩;subst hw;rcases hcase with⟨j,hj,hk,rfl⟩|⟨hno,rfl⟩
 ·have HPC:=hZ (HJ j hj hk);obtain⟨g,off,e0,hg,d0,d1,d2,d3⟩:=HRT.k.cl.rowAt.clt hj;have t2:=HRT.c2;subst e0;have fz:∀i,w1.frozen? ⟨g,i,none⟩=false:=fun i=>by obtain⟨g',off',cap',cur',e1,_,e2,_⟩:=HRT.k.cl.some' (by omega);injection e1 with e1;injection e1 with e1;injection e1 with e1 _;subst e1;exact vF e2 i
  have f2:=fz (off+j*4+2);have f3:=fz (off+j*4+3);have hgr:=(HRT.k.cl.own g rfl).1;have hn1:g≠C.TB:=fun e=>by rw[e,HRT.b.rT] at hgr;cases hgr
  have hn2:C.TB≠g:=fun e=>hn1 e.symm;obtain⟨r1,q1⟩:=HRT.wcl hj (tN (kat rc j) [] none 0) 2 (.slice none 0 0) (rO [] none 0 rc j hj) ⟨rfl,Or.inl ⟨rfl,rfl⟩⟩ (fun x hx=>by cases hx) (g:=g) (off:=off) (lc:=cc) rfl;have hj':j<(rc.set j (tN (kat rc j) [] none 0)).length:=by rw[bR];exact hj
  have hkj:kat (rc.set j (tN (kat rc j) [] none 0)) j=tN (kat rc j) [] none 0:=by rw[xT hj,if_pos rfl]
  obtain⟨r2,q2⟩:=r1.wcl hj' (Bs (tN (kat rc j) [] none 0) 0) 3 (.int .i64 0) (by have:=qQ 0 (rc.set j (tN (kat rc j) [] none 0)) j hj';rw[hkj] at this;exact this) (by have:=r1.k.bx j hj';rw[hkj] at this;exact this) (fun x hx=>by cases hx) (g:=g) (off:=off) (lc:=cc) (by rw[bR]);rw[<-dH,<-dH] at r2 q2;rw[<-dH] at q1;have FIN:Hid (RiP A C T R cs s c w1 (.returned (.tuple #[.slice (kat rc j).bad (kat rc j).box.length (kat rc j).bcap,.int .i64 (kat rc j).lost,.int .i64 0])) ((w1.setCell ⟨g,off+j*4+2,none⟩ (.slice none 0 0)).setCell ⟨g,off+j*4+3,none⟩ (.int .i64 0))):=by
   have fr:=q1.trans q2;obtain⟨hnb,rv,hcs⟩:=HRV.out;have hp:=HPC.out;refine⟨(kat rc j).bad,(kat rc j).bcap,(kat rc j).box,j,by rw[<-hp];rfl,by rw[<-hp];rfl,?_,fun x hx=>?_,⟨ads,Xs,_,Ls,_,_,r2,hnb,rv,?_⟩,fr⟩
   ·refine(HRT.k.bx j hj).kept fun i hi hR=>⟨?_,hR⟩;rw[Below.heap_setCell _ _ _ i (fun e=>by have e:i=g:=e;rw[e,hgr] at hR;cases hR),Below.heap_setCell _ _ _ i (fun e=>by have e:i=g:=e;rw[e,hgr] at hR;cases hR)]
   ·exact(HRT.k.be _ (kE hj) x hx).keep fr.size (fun k hk ha=>fr.keep k hk (Or.inl (HRT.b.aR k ha)))
   ·(have e1:c.num=(kat rc j).num:=by rw[<-hp];rfl);rw[<-hcs,e1,List.set_set];exact Xw hj (by unfold mW;rw[if_pos (show(pcR (kat rc j)).num=(kat rc j).num from rfl)];rfl) (fun i hi hij=>HU i hi j hj hij)
  clear r1 r2 q1 q2 fz CL HJ HIN hk hkj hj' hgr;go_wp2_with fail;exact bodyPost_ret (v:=.tuple #[.slice (kat rc j).bad (kat rc j).box.length (kat rc j).bcap,.int .i64 (kat rc j).lost,.int .i64 0]) (by simp[results,results59,go_sem]) rfl FIN.out
 ·exact absurd hno HIN.out
def IpP(T:Tc)(r:Nat->Rl)(cs':List (Pc (List Atr)))(s:Ts)(n lost code:Int)(X:List (List Atr))(w:World)(e:Ending)(w':World):Prop:=∃(va:Option Addr)(vc:Nat)(r':Nat->Rl)(L:List Bev),e=.returned (.tuple #[.slice va X.length vc,.int .i64 lost,.int .i64 code])/\L.map (·.1)=X/\Tf T r' w' cs' s/\Fr r r' w w'/\w'.ownsRow w.heap.size 78 1 (.slice va X.length vc) X.length (L.map bv)/\(∀i y,L[i]?=some y->EvI (.ix n i) r' w' y)/\∀k,Value.ownBlock (.slice va X.length vc)=some k->r' k=.no
def IrP(A:Nat->Prop)(C:Rc)(T:Tc)(R:Nat->Rl)(cs':List (Pc (List Atr)))(s:Ts)(lost code:Int)(X:List (List Atr))(w:World)(e:Ending)(w':World):Prop:=∃(ba:Option Addr)(bc:Nat)(L:List Bev),e=.returned (.tuple #[.slice ba X.length bc,.int .i64 lost,.int .i64 code])/\L.map (·.1)=X/\jM w' ba (L.map bv)/\(∀y∈L,EvM w' y.2.1 y.1)/\Rw A C T R w' cs' s/\Fr R R w w'
def Cw(A:Nat->Prop)(T:Tc)(C:Rc)(r R:Nat->Rl)(w:World)(cs:List (Pc (List Atr)))(s:Ts)(n:Int):Prop:=∃(lost code:Int)(X:List (List Atr)),X.length<=16/\(∀W,Gr w W->Calls prog 58 #[.pointer (some ⟨T.TB,0,none⟩),.int .i64 n] W fun e w'=>IpP T r (cs.map (mW n)) s n lost code X W e w') /\∀W,Rw A C T R W cs s->Calls prog 59 #[.pointer (some ⟨C.TB,0,none⟩),.int .i64 n] W fun e w'=>IrP A C T R (cs.map (mW n)) s lost code X W e w'
theorem Ht{n:Int}(h:∀c∈cs,c.num≠n):cs.map (mW n)=cs:=by refine(cC fun c hc=>?_).trans (List.map_id cs);show mW n c=c;unfold mW;rw[if_neg (h c hc)]
theorem zV{r R:Nat->Rl}{s:Ts}(h:Tf T r w cs s)(huni:cs.Pairwise fun x y=>x.num≠y.num)(hcl:cs.length<=16)(hbox:∀c∈cs,c.box.length<=16)(n:Int)(hn:I64 n):Cw A T C r R w cs s n:=by
 by_cases hc:∃c∈cs,c.num=n
 ·obtain⟨c,hc,rfl⟩:=hc;refine⟨c.lost,0,c.box,hbox c hc,fun W g=>?_,fun W hW=>?_⟩
  ·refine(Ym T r W cs s c (h.gr g) hc (hbox c hc)).mono ?_;rintro e w' ⟨v,r',L,he,h1,h2,h3,h4,h5,h6⟩;(have hl:L.length=c.box.length:=by rw[<-h4,aB]);rw[hl] at h3;obtain⟨va,vc,rfl,_⟩:=gH h3;exact⟨va,vc,r',L,he,h4,h1,h2,h3,h5,h6⟩
  ·refine(Rz A C T R W cs s c hW hc huni hcl).mono ?_;rintro e w' ⟨ba,bc,L,j,he,h4,h3,h5,h1,h2⟩;(have hl:L.length=c.box.length:=by rw[<-h4,aB]);rw[hl] at he h3;exact⟨ba,bc,L,he,h4,h3.rowAt,fun y hy=>(h5 y hy).m,h1,h2⟩
 ·have hne:∀c∈cs,c.num≠n:=fun c h1 e=>hc ⟨c,h1,e⟩;refine⟨0,5,[],zZ,fun W g=>?_,fun W hW=>?_⟩
  ·obtain⟨cls,hT,hcs⟩:=h;refine(Kw T r W cls s n (hT.gr g) hn (fun x hx e=>hne (jH x) (by rw[<-hcs];exact aQ hx) e)).mono ?_;rintro e w' ⟨he,g'⟩;rw[Ht hne];exact⟨none,0,r,[],he,rfl,⟨cls,(hT.gr g).gr g',hcs⟩,Fr.gr g',bF _ _ _ _,(fun i y hy=>by simp at hy),(fun k hk=>by simp[Value.ownBlock] at hk)⟩
  ·have hW0:=hW;obtain⟨ads,Xs,lv,Ls,cv,rs,rt,hnb,rv,hr⟩:=hW;obtain⟨ca,cc,rfl⟩:=rt.k.cl.shape;(have hrl:rs.length<=16:=by rw[<-aB (f:=pcR),hr];exact hcl);refine(Fq C.TB ca cc rs W n rt.c2 rt.k.cl.rowAt hrl (fun d hd e=>hne (pcR d) (by rw[<-hr];exact aQ hd) e)).mono ?_;rintro e w' ⟨he,hw⟩;rw[hw,Ht hne];exact⟨none,0,[],he,rfl,Or.inl rfl,(fun y hy=>by simp at hy),hW0,Fr.refl _ _⟩
open Classical in
noncomputable def giv (n:Int) (r:Nat->Rl):Nat->Rl:=fun k=>if ∃i,r k=.ix n i then .no else r k
theorem pR{n:Int}{r:Nat->Rl}{k:Nat}(h:r k=.no):giv n r k=.no:=by
 unfold giv;split
 ·rfl
 ·exact h
theorem Tf.giv{r:Nat->Rl}{s:Ts}{n:Int}(h:Tf T r w cs s)(hb:∀c∈cs,c.num=n->c.box=[]):Tf T (giv n r) w cs s:=by
 obtain⟨cls,⟨Xs,qs,t,v⟩,rfl⟩:=h;refine⟨cls,⟨Xs,qs,t.rerole _ (fun k hk=>?_) (pR t.b.r0) (fun k hk=>pR (t.b.top k hk)),v⟩,rfl⟩;by_cases e:∃i,r k=.ix n i
 ·obtain⟨i,e⟩:=e;refine Or.inr ⟨n,i,e,fun d hd hn=>?_⟩;have:=hb (jH d) (aQ hd) hn;simpa[jH] using this
 ·exact Or.inl (if_neg e)
section
variable {A:Nat->Prop}{T:Tc}{C:Rc}{r R:Nat->Rl}{LB PB BB:Nat}{B D:Nat->Prop}{L M:Nat}{w:World}{cs:List (Pc (List Atr))}{s:Ts}
theorem St.keptE(h:St A T C r R LB PB BB B D L M w cs s){n:Int}(hb:∀c∈cs,c.num=n->c.box=[]){own:Option Nat}{gs:List Nat}{L':Nat}(hgs:∀z∈gs,∃i,r z=.ix n i)(hown:∀z,own=some z->r z=.no/\R z=.no/\¬D z/\¬A z/\z≠PB/\z≠0)(bo:Bo BB (fun z=>B z\/own=some z\/z∈gs\/(w.heap.size<=z/\z<w'.heap.size)) L' w')(kx:Kx (fun z=>B z\/own=some z\/z∈gs) w w'):St A T C (giv n r) R LB PB BB (fun z=>B z\/own=some z\/z∈gs\/(w.heap.size<=z/\z<w'.heap.size)) D L' M w' cs s:=by
 have tr:=h.pr.p.b.top;have tR:=h.pr.q.top.1;have tA:=h.pr.q.top.2;have tp:=fZ h.pr.pb;have t0:0<w.heap.size:=h.pr.p.b.ml.pos;have tD:=h.le.lt;have hix:∀z∈gs,r z≠.no/\giv n r z=.no:=fun z hz=>by obtain⟨i,e⟩:=hgs z hz;exact⟨(by rw[e];exact fun e=>by cases e),if_pos ⟨i,e⟩⟩
 have hno:∀k,(B k\/own=some k\/k∈gs)->giv n r k=.no/\R k=.no/\¬D k/\¬A k/\k≠PB/\k≠0:=fun k hk=>by
  rcases hk with hk|hk|hk
  ·exact⟨pR (h.sB k hk).1,(h.sB k hk).2⟩
  ·exact⟨pR (hown k hk).1,(hown k hk).2⟩
  ·obtain⟨h1,h2⟩:=hix k hk;exact⟨h2,(h.pr.ap k).resolve_left h1,fun e=>h1 (h.sD k e).1,fun e=>h1 (h.pr.ar k e),fun e=>h1 (e▸h.pr.np.1),fun e=>h1 (e▸h.pr.p.b.r0)⟩
 have hp:=h.pr;have pr':Pr A T C (giv n r) R LB PB BB w cs s:=⟨hp.p.giv hb,hp.q,fun k=>(hp.ap k).imp pR id,fun k hk=>pR (hp.ar k hk),hp.R0,hp.pb,⟨pR hp.np.1,hp.np.2⟩⟩;have pz:∀k,(B k\/own=some k\/k∈gs)\/kz (fun z=>B z\/own=some z\/z∈gs) k=.no:=fun k=>(Classical.em _).imp id kS;have a1:=pr'.apart kx.fr (fun k=>(pz k).imp (fun e=>(hno k e).1) id) (fun k=>(pz k).imp (fun e=>(hno k e).2.1) id) (fun k hk=>kS (fun e=>(hno k e).2.2.2.1 hk)) (kS (fun e=>(hno 0 e).2.2.2.2.2 rfl)) (kS (fun e=>(hno PB e).2.2.2.2.1 rfl));refine⟨a1,bo,h.le.apart kx (fun k hk e=>(hno k e).2.2.1 hk) (fun k hk e=>(hno k e).2.2.2.1 hk),fun k hk=>?_,fun k hk=>⟨pR (h.sD k hk).1,(h.sD k hk).2⟩⟩;rcases hk with hk|hk|hk|hk
 ·exact hno k (Or.inl hk)
 ·exact hno k (Or.inr (Or.inl hk))
 ·exact hno k (Or.inr (Or.inr hk))
 ·exact⟨pR (tr k hk.1),tR k hk.1,fun c=>absurd (tD k c) (by omega),fun c=>absurd (tA k c) (by omega),by omega,by omega⟩
end
def Iu(A:Nat->Prop)(T:Tc)(C:Rc)(r R:Nat->Rl)(LB PB BB:Nat)(B D:Nat->Prop)(L M:Nat)(n:Int)(w:World)(cs:List (Pc (List Atr)))(s:Ts)(w':World):Prop:=∃r' B',(∀k,k<w.heap.size->B' k->B k\/r k≠.no)/\St A T C r' R LB PB BB B' D (L+68) M w' (cs.map (mW n)) s/\Kq r R r' R B D w w'
def rG(y:Bev):Nat:=(y.2.1.map (·.block)).getD 0
section
variable {A:Nat->Prop}{T:Tc}{C:Rc}{r R r1:Nat->Rl}{LB PB BB:Nat}{B D:Nat->Prop}{L M:Nat}{w w1 w2:World}{cs:List (Pc (List Atr))}{s:Ts}{n:Int}{va:Option Addr}{vc:Nat}{X:List (List Atr)}{Lx:List Bev}
theorem St.evB(h:St A T C r R LB PB BB B D L M w cs s)(f1:Fr r r1 w w1)(_t1:Tf T r1 w1 (cs.map (mW n)) s)(f2:Fr R R w1 w2)(hX:Lx.map (·.1)=X)(hX16:X.length<=16)(o1:w1.ownsRow w.heap.size 78 1 (.slice va X.length vc) X.length (Lx.map bv))(ev:∀i y,Lx[i]?=some y->EvI (.ix n i) r1 w1 y)(g:Gr w2 wr):EvB B w.heap.size va vc (Lx.map bv) (Lx.map rG) wr/\(∀z∈Lx.map rG,∃i,r1 z=.ix n i)/\∀(i:Nat)(y:Bev),Lx[i]?=some y->EvM wr y.2.1 y.1:=by
 have hxl:Lx.length=X.length:=by rw[<-hX,aB]
 have tR:=h.pr.q.top.1;have sz1:=f1.size;have sz2:=f2.size;have R1:∀k,r1 k≠.no->R k=.no:=fun k hk=>by
  rcases cG k w.heap.size with hl|hl
  ·exact(h.pr.ap k).resolve_left (fun e=>hk ((f1.same k hl).trans e))
  ·exact tR k hl
 have bk:∀i y,Lx[i]?=some y->r1 (rG y)=.ix n i/\y.2.1=some ⟨rG y,0,none⟩:=fun i y hy=>by
  obtain⟨b,e1,e2⟩:=(ev i y hy).r;have:rG y=b:=by unfold rG;rw[e1];rfl
  rw[this];exact⟨e2,e1⟩
 have ev2:∀i y,Lx[i]?=some y->EvI (.ix n i) r1 wr y:=fun i y hy=>((ev i y hy).keep sz2 (fun k hk e=>f2.keep k hk (Or.inl (R1 k (by rw[e];exact fun e=>by cases e)))) (fun _ _=>rfl)).gr g;have ow:wr.ownsRow w.heap.size 78 1 (.slice va X.length vc) X.length (Lx.map bv):=gO (mJ o1 (fun k hk e=>f2.keep k hk (Or.inl (tR k (iC o1 k e))))) g;have hml:(Lx.map bv).length=X.length:=by rw[aB];exact hxl
 have ixs:∀z∈Lx.map rG,∃i,r1 z=.ix n i:=fun z hz=>by obtain⟨y,hy,rfl⟩:=aC.1 hz;obtain⟨i,hi,e⟩:=bG hy;exact⟨i,(bk i y (by rw[aJ hi,e])).1⟩
 refine⟨⟨by omega,by rw[aB,aB],?_,by have:=g.size;omega,by rw[hml];exact ow,fun i hi=>?_,fun z hz=>⟨fun hc=>?_,fun e=>?_⟩⟩,ixs,fun i y hy=>(ev2 i y hy).m⟩
 ·refine bZ.2 (fun i j hi hj hij e=>?_);rw[aB] at hi hj;have e1:=(bk i Lx[i] (aJ hi)).1;have e2:=(bk j Lx[j] (aJ hj)).1;simp only[List.getElem_map] at e;rw[e,e2] at e1;injection e1 with _ e1;omega
 ·rw[aB] at hi;have hy:Lx[i]?=some Lx[i]:=aJ hi;have hv:vat (Lx.map bv) i=bv Lx[i]:=by unfold vat;rw[aI,aO,hy];rfl
  have hg:(Lx.map rG).getD i 0=rG Lx[i]:=by rw[aI,aO,hy];rfl
  have e1:bv Lx[i]=.slice (some ⟨rG Lx[i],0,none⟩) Lx[i].1.length Lx[i].2.2:=by unfold bv;rw[<-(bk i _ hy).2]
  have o:=(ev2 i _ hy).o;have len8:=(ev2 i _ hy).m.len;rw[e1] at o;exact⟨_,_,_,by rw[hv,hg,e1],by omega,by rw[hg];exact o⟩
 ·obtain⟨i,e⟩:=ixs z hc;have:=(h.sB z hz).1;rw[<-f1.same z (h.bo.lt z hz),e] at this;cases this
 ·rw[hml] at e;have:=iC o1 z e;have:=h.bo.lt z hz;omega
theorem St.ibFin(h:St A T C r R LB PB BB B D L M w cs s)(hL:L+68<=1099511627776)(f1:Fr r r1 w w1)(t1:Tf T r1 w1 (cs.map (mW n)) s)(f2:Fr R R w1 w2)(q2:Rw A C T R w2 (cs.map (mW n)) s)(hX:Lx.map (·.1)=X)(hX16:X.length<=16)(o1:w1.ownsRow w.heap.size 78 1 (.slice va X.length vc) X.length (Lx.map bv))(ev:∀i y,Lx[i]?=some y->EvI (.ix n i) r1 w1 y)(no1:∀k,Value.ownBlock (.slice va X.length vc)=some k->r1 k=.no)(g:Gr w2 wr):Calls prog 61 #[.pointer (some ⟨BB,0,none⟩),.slice va X.length vc] wr fun e w'=>e=.returned (.tuple #[])/\Iu A T C r R LB PB BB B D L M n w cs s w':=by
 obtain⟨E,ixs,_⟩:=h.evB f1 t1 f2 hX hX16 o1 ev g;have hml:(Lx.map bv).length=X.length:=by rw[aB,<-hX,aB]
 obtain⟨st,kq⟩:=h.both f1 t1 f2 q2;have st:=st.gr g;obtain⟨a,e,l,k,ms,bx⟩:=st.bo;have KV:=bx.keepV hL E;rw[hml] at KV;refine KV.mono ?_;rintro x w' ⟨hx,bo,kx⟩;have tR:=h.pr.q.top.1;have tA:=h.pr.q.top.2;have tp:=fZ h.pr.pb;have t0:0<w.heap.size:=h.pr.p.b.ml.pos;have tD:=h.le.lt;have sz1:=f1.size;have sz2:=f2.size;have gsz:=g.size;have old:∀z,z<w.heap.size->z∈Lx.map rG->r z≠.no:=fun z hz hc e=>by obtain⟨i,e'⟩:=ixs z hc;have:=(kq.2 z hz).1 e;rw[e'] at this;cases this
 have st3:=st.keptE (n:=n) (own:=Value.ownBlock (.slice va X.length vc)) (gs:=Lx.map rG) (fun c hc hn=>?_) ixs (fun z hz=>?_) bo kx
 ·refine⟨hx,_,_,fun z hz hb=>?_,st3,((Kx.wide kq.1 (fun _ _ e=>e)).trans (Kx.gr g) (fun _ _ e=>e)).trans kx (fun z hz e=>?_),fun z hz=>⟨fun e=>pR ((kq.2 z hz).1 e),fun e=>e⟩⟩
  ·rcases hb with hb|hb|hb|hb
   ·exact Or.inl hb
   ·have:=iC o1 z hb;omega
   ·exact Or.inr (old z hz hb)
   ·omega
  ·rcases e with e|e|e
   ·exact Or.inr (Or.inr (Or.inl e))
   ·have:=iC o1 z e;omega
   ·exact Or.inl (old z hz e)
 ·obtain⟨d,_,rfl⟩:=aC.1 hc;unfold mW at hn ⊢;split
  ·rfl
  ·rename_i hne;rw[if_neg hne] at hn;exact absurd hn hne
 ·have:=iC o1 z hz;exact⟨no1 z hz,tR z this,fun e=>by have:=tD z e;omega,fun e=>by have:=tA z e;omega,by omega,by omega⟩
end
theorem Ro(wz:World)(l:List Atr)(ad ad':Option Addr)(cap cap':Nat)(w:World)(h:Gr wz w)(h1:EvM wz ad l)(h2:EvM wz ad' l):Calls prog 60 #[.slice ad l.length cap,.slice ad' l.length cap'] w fun e w'=>e=.returned (.bool true)/\Gr wz w':=(Av l ad ad' cap cap' w (by have:=h1.len;unfold maxLen;omega) (Or.inr (h1.gr h).at') (Or.inr (h2.gr h).at')).mono fun _ _ ⟨e,g⟩=>⟨e,Gr.call h g⟩
theorem St.inbox{r R:Nat->Rl}{LB:Nat}{L:Nat}{s:Ts}(h:St A T C r R LB PB BB B D L M w cs s)(hL:L+68<=1099511627776)(n:Int)(hb:Cw A T C r R w cs s n):Calls prog 30 #[.pointer (some ⟨PB,0,none⟩),.int .i64 n] w fun e w'=>e=.returned (.bool true)/\Iu A T C r R LB PB BB B D L M n w cs s w':=by
 obtain⟨lost,code,X,hX16,HP,HR⟩:=hb;have PI:=hZ (HP w gZ);have RI:=hZ HR;have HS:=hZ h;have PC:Hid (∀W:World,W.heap[PB]?=w.heap[PB]?->W.cell? ⟨PB,0,none⟩=some (.pointer (some ⟨T.TB,0,none⟩))/\W.cell? ⟨PB,1,none⟩=some (.pointer (some ⟨C.TB,0,none⟩))/\W.cell? ⟨PB,3,none⟩=some (.pointer (some ⟨BB,0,none⟩))):=fun W e=>by have b:=e.trans h.pr.pb;refine⟨?_,?_,?_⟩<;>(rw[cZ b];rfl)
 obtain⟨p0,p1,p3⟩:=PC w rfl;clear h HP HR;go_enter func30,ntmps30;go_wp2_with fail;refine PI.mono ?_;rintro e w1 ⟨va,vc,r1,Lx,rfl,hX,t1,f1,o1,ev1,no1⟩;have e1:w1.heap[PB]?=w.heap[PB]?:=f1.keep PB (fZ HS.pr.pb) (Or.inl HS.pr.np.1);have H1:=hZ (And.intro hX (And.intro t1 (And.intro f1 (And.intro o1 (And.intro ev1 no1)))));have E1:=hZ e1;have RQ:=hZ (RI w1 (HS.pr.mid f1));clear hX t1 f1 o1 ev1 no1 e1 PI RI p0 p1 p3;obtain⟨p0,p1,p3⟩:=PC w1 E1.out;go_wp2_with fail;refine RQ.mono ?_;rintro e w2 ⟨ba,bc,Ly,rfl,hY,row,evm,q2,f2⟩;have e2:w2.heap[PB]?=w.heap[PB]?:=(f2.keep PB (by have:=fZ HS.pr.pb;have:=H1.2.2.1.size;omega) (Or.inl HS.pr.np.2)).trans E1.out;have KE:Hid (∀wr,Gr w2 wr->Calls prog 61 #[.pointer (some ⟨BB,0,none⟩),.slice va X.length vc] wr fun e w'=>e=.returned (.tuple #[])/\Iu A T C r R LB PB BB B D L M n w cs s w'):=fun wr g=>by obtain⟨hX,t1,f1,o1,ev1,no1⟩:=H1.out;exact HS.ibFin hL f1 t1 f2 q2 hX hX16 o1 ev1 no1 g
 have PW:Hid (∀W,Gr w2 W->W.cell? ⟨PB,3,none⟩=some (.pointer (some ⟨BB,0,none⟩))):=fun W g=>(PC W ((g.block PB (by have:=fZ HS.pr.pb;have:=H1.2.2.1.size;have:=f2.size;omega)).trans e2)).2.2;have SE:Hid (∀q,q<X.length->∀wr,Gr w2 wr->∃gb bb boff xa xc ya yc l,va=some ⟨gb,0,none⟩/\ba=some ⟨bb,boff,none⟩/\gb<wr.heap.size/\bb<wr.heap.size/\wr.cell? ⟨gb,q,none⟩=some (.slice xa (List.length l) xc)/\wr.cell? ⟨bb,boff+q,none⟩=some (.slice ya l.length yc)/\EvM wr xa l/\EvM wr ya l):=fun q hq wr g=>by
  obtain⟨hX,t1,f1,o1,ev1,no1⟩:=H1.out;obtain⟨E,_,evs⟩:=HS.evB f1 t1 f2 hX hX16 o1 ev1 g;have hlx:Lx.length=X.length:=by rw[<-hX,aB]
  have hly:Ly.length=X.length:=by rw[<-hY,aB]
  have hxq:Lx[q]?=some (Lx[q]'(by omega)):=aJ (by omega);have hyq:Ly[q]?=some (Ly[q]'(by omega)):=aJ (by omega);have hxy:(Lx[q]'(by omega)).1=(Ly[q]'(by omega)).1:=by
   (have a1:(Lx.map (·.1))[q]?=some (Lx[q]'(by omega)).1:=by rw[aO,hxq];rfl);have a2:(Ly.map (·.1))[q]?=some (Ly[q]'(by omega)).1:=by rw[aO,hyq];rfl
   rw[hX] at a1;rw[hY,a1] at a2;injection a2
  have hml:(Lx.map bv).length=X.length:=by rw[aB];exact hlx
  have ow:=E.ow;rw[hml] at ow;obtain⟨a',c',ha,hb'⟩:=gH ow;obtain⟨gb,hgb⟩:=hb' (by omega);injection ha with ha _ _;subst ha;subst hgb;have r2:=row.gr g;rcases r2 with r2|⟨bb,boff,rfl,hbl,r2⟩
  ·have:=congrArg List.length r2;rw[aB,cF] at this;omega
  ·refine⟨gb,bb,boff,(Lx[q]'(by omega)).2.1,(Lx[q]'(by omega)).2.2,(Ly[q]'(by omega)).2.1,(Ly[q]'(by omega)).2.2,(Lx[q]'(by omega)).1,rfl,rfl,kN ow rfl,hbl,?_,?_,evs q _ hxq,?_⟩
   ·rw[aH ow q (by omega),aO,hxq];rfl
   ·rw[hxy];exact r2 q _ (by rw[aO,hyq];rfl)
   ·rw[hxy];exact((evm _ (eG _)).gr g)
 have hly:X.length<=16:=hX16;clear hY row evm q2 f2 e2 E1 RQ p0 p1 p3 H1 HS PC;go_wp2_with fail;refine(nU code w2).mono ?_;rintro e w5 ⟨rfl,hw5⟩;subst hw5;go_wp2_with fail;have G0:Hid (Gr w5 w5):=gZ;go_loopw [11] (fun i wr=>∃q:Nat,q<=X.length/\i=.int .i64 q/\Hid (Gr w5 wr)) (fun i _=>X.length-(intOf i).toNat);case atStart=>exact⟨0,zZ,rfl,G0⟩
 case round=>
  obtain⟨q,hq,rfl,G⟩:=hrel;by_cases hlt:q<X.length
  ·obtain⟨gb,bb,boff,xa,xc,ya,yc,l,rfl,rfl,l1,l2,c1,c2,m1,m2⟩:=SE q hlt wr G.out;have M1:=hZ m1;have M2:=hZ m2;have TT:Hid (∀w',Gr wr w'->Gr wr w'/\w'.cell? ⟨gb,q,none⟩=some (.slice xa l.length xc)/\w'.cell? ⟨bb,boff+q,none⟩=some (.slice ya l.length yc)):=fun w' g'=>⟨g',(g'.cell (p:=⟨gb,q,none⟩) l1).trans c1,(g'.cell (p:=⟨bb,boff+q,none⟩) l2).trans c2⟩;clear m1 m2 SE KE PW;go_wp2_with fail;go_region_held3(fun w'=>Gr wr w'/\w'.cell? ⟨gb,q,none⟩=some (.slice xa l.length xc)/\w'.cell? ⟨bb,boff+q,none⟩=some (.slice ya l.length yc)) (exact TT _ (by first|exact gZ|assumption|exact Gr.drew gZ|exact Gr.drew (by assumption))) (first|(go_at_call 60;refine(Ro wr l _ _ _ _ _ (by exact(show Gr wr _/\_ by assumption).1) M1.out M2.out).mono ?_;rintro e w4 ⟨rfl,g4⟩));all_goals
    have G5:=hZ (Gr.call G.out g4);clear g4;go_wp2_with fail;exact⟨⟨q+1,hlt,by simp,G5⟩,gD _ _ hlt⟩
  ·(have hqe:q=X.length:=by omega);subst hqe;have p3:=PW wr G.out;have KQ:=hZ (KE wr G.out);clear SE KE PW G;go_wp2_with fail;refine KQ.mono ?_;rintro e w6 ⟨rfl,hq6⟩;have Q6:=hZ hq6;clear hq6 KQ;go_wp2_with fail;go_ret;exact⟨rfl,Q6.out⟩
theorem Cw.gr{r R:Nat->Rl}{W:World}{s:Ts}{n:Int}(h:Cw A T C r R w cs s n)(g:Gr w W):Cw A T C r R W cs s n:=by obtain⟨lost,code,X,h1,h2,h3⟩:=h;exact⟨lost,code,X,h1,fun W' g'=>h2 W' (Gr.call g g'),h3⟩
theorem Iu.pre{r R:Nat->Rl}{LB:Nat}{L:Nat}{n:Int}{W:World}{s:Ts}(g:Gr w W)(h:Iu A T C r R LB PB BB B D L M n W cs s w'):Iu A T C r R LB PB BB B D L M n w cs s w':=by obtain⟨r',B',h1,h2,h3⟩:=h;exact⟨r',B',fun k hk=>h1 k (aF hk g.size),h2,(Kx.gr g).trans h3.1 (fun _ _ e=>e),fun k hk=>h3.2 k (aF hk g.size)⟩
theorem St.step7{r R:Nat->Rl}{LB:Nat}{L:Nat}{s:Ts}(h:St A T C r R LB PB BB B D L M w cs s)(wh a b:Int)(fad:Option Addr)(fn fc:Nat)(ead:Option Addr)(en ec:Nat)(hL:L+68<=1099511627776)(hb:Cw A T C r R w cs s a):Calls prog 9 #[.pointer (some ⟨PB,0,none⟩),lK wh 7 a b fad fn fc ead en ec] w fun e w'=>e=.returned (.bool true)/\Iu A T C r R LB PB BB B D L M a w cs s w':=by have LK:Hid (∀W,Gr w W->Calls prog 30 #[.pointer (some ⟨PB,0,none⟩),.int .i64 a] W fun e w'=>e=.returned (.bool true)/\Iu A T C r R LB PB BB B D L M a w cs s w'):=fun W g=>((h.gr g).inbox hL a (hb.gr g)).mono (fun e w' he=>⟨he.1,he.2.pre g⟩);clear h hb hL;unfold lK;go_enter func9,ntmps9;go_wp2_with fail;refine(LK _ ((Gr.refl w).alloc _)).mono ?_;intro e w1 hp;have HQ:=hZ hp.2;have he:=hp.1;subst he;clear hp LK;go_wp2_with fail;go_ret;exact⟨rfl,HQ.out⟩
def xL(A:Nat->Prop)(T:Tc)(C:Rc)(r R:Nat->Rl)(LB PB BB:Nat)(B D:Nat->Prop)(L M:Nat)(w:World)(cs:List (Pc (List Atr)))(s:Ts)(wr:World):Prop:=∃B',(∀k,k<w.heap.size->B' k->B k)/\St A T C r R LB PB BB B' D L M wr cs s/\Kx (Oz r R B D) w wr
theorem xL.look{r R:Nat->Rl}{LB:Nat}{L:Nat}{s:Ts}{B':Nat->Prop}(h0:∀k,k<w.heap.size->B' k->B k)(h2:Kx (Oz r R B D) w wr)(h:∃B2,(∀k,k<wr.heap.size->B2 k->B' k)/\St A T C r R LB PB BB B2 D (L+4) M w' cs s/\Kx (Oz r R B' D) wr w'):xL A T C r R LB PB BB B D (L+4) M w cs s w':=by
 obtain⟨B2,k0,k1,k2⟩:=h;refine⟨B2,fun k hk hb=>h0 k hk (k0 k (aF hk h2.size) hb),k1,h2.trans k2 (fun k hk e=>?_)⟩;rcases e with e|e|e|e
 ·exact Or.inl e
 ·exact Or.inr (Or.inl e)
 ·exact Or.inr (Or.inr (Or.inl (h0 k hk e)))
 ·exact Or.inr (Or.inr (Or.inr e))
def Bi(A:Nat->Prop)(T:Tc)(C:Rc)(r R:Nat->Rl)(LB PB BB:Nat)(B D:Nat->Prop)(L M:Nat)(nxt:Nat->Nat->Int)(rank:Nat->Nat->Nat)(Ks:List Ky)(Mw:Nat)(w:World)(cs:List (Pc (List Atr)))(s:Ts)(wr:World):Prop:=∃r' B' cs',ids cs'=ids cs/\Wl T nxt rank Ks cs' s Mw/\(∀k,k<w.heap.size->B' k->B k\/r k≠.no)/\St A T C r' R LB PB BB B' D L M wr cs' s/\Kq r R r' R B D w wr
section
variable {A:Nat->Prop}{T:Tc}{C:Rc}{r R:Nat->Rl}{LB PB BB:Nat}{B D:Nat->Prop}{L M:Nat}{w:World}{cs:List (Pc (List Atr))}{s:Ts}{nxt:Nat->Nat->Int}{rank:Nat->Nat->Nat}{Ks:List Ky}{Mw:Nat}
theorem xL.j(h:xL A T C r R LB PB BB B D L M w cs s wr)(W:Wl T nxt rank Ks cs s Mw):Bi A T C r R LB PB BB B D L M nxt rank Ks Mw w cs s wr:=by obtain⟨B',h1,h2,h3⟩:=h;exact⟨r,B',cs,rfl,W,fun k hk e=>Or.inl (h1 k hk e),h2,h3,fun _ _=>⟨fun e=>e,fun e=>e⟩⟩
theorem Bi.inbox(h:Bi A T C r R LB PB BB B D L M nxt rank Ks Mw w cs s wr)(hL:L+68<=1099511627776)(n:Int)(hn:I64 n):Calls prog 30 #[.pointer (some ⟨PB,0,none⟩),.int .i64 n] wr fun e w'=>e=.returned (.bool true)/\Bi A T C r R LB PB BB B D (L+68) M nxt rank Ks Mw w cs s w':=by
 obtain⟨r',B',cs',h1,h2,h3,h4,h5⟩:=h;refine(h4.inbox hL n (zV h4.pr.p h2.un h2.le h2.box n hn)).mono ?_;rintro e w' ⟨he,r2,B2,j1,j2,j3⟩;have sz:=h5.1.size;refine⟨he,r2,B2,_,Mg.trans h1,h2.clr n,fun k hk hb=>?_,j2,h5.1.trans j3.1 (fun k hk e=>?_),fun k hk=>⟨fun e=>(j3.2 k (by omega)).1 ((h5.2 k hk).1 e),fun e=>(j3.2 k (by omega)).2 ((h5.2 k hk).2 e)⟩⟩
 ·rcases j1 k (by omega) hb with e|e
  ·exact h3 k hk e
  ·exact Or.inr (fun c=>e ((h5.2 k hk).1 c))
 ·rcases e with e|e|e|e
  ·exact Or.inl (fun c=>e ((h5.2 k hk).1 c))
  ·exact Or.inr (Or.inl e)
  ·rcases h3 k hk e with e|e
   ·exact Or.inr (Or.inr (Or.inl e))
   ·exact Or.inl e
  ·exact Or.inr (Or.inr (Or.inr e))
theorem Bi.clt(h:Bi A T C r R LB PB BB B D L M nxt rank Ks Mw w cs s wr):wr.cell? ⟨PB,1,none⟩=some (.pointer (some ⟨C.TB,0,none⟩))/\∃ca cc,wr.cell? ⟨C.TB,2,none⟩=some (.slice ca cs.length cc)/\∀j,j<cs.length->∃b off n,ca=some ⟨b,off,none⟩/\I64 n/\wr.cell? ⟨b,off+j*4,none⟩=some (.int .i64 n):=by
 obtain⟨r',B',cs',h1,h2,h3,h4,h5⟩:=h;have hl:cs'.length=cs.length:=by have:=congrArg List.length h1;simpa[ids] using this
 refine⟨by rw[cZ h4.pr.pb];rfl,?_⟩;have i64:∀c∈cs',I64 c.num:=by obtain⟨cls,⟨Xs,qs,t,_⟩,rfl⟩:=h4.pr.p;intro c hc;obtain⟨x,hx,rfl⟩:=aC.1 hc;exact(t.k.num x hx).1
 obtain⟨ads,Xs,lv,Ls,cv,rs,rt,hnb,rv,hr⟩:=h4.pr.q;obtain⟨ca,cc,rfl⟩:=rt.k.cl.shape;have hrl:rs.length=cs.length:=by rw[<-hl,<-hr,aB]
 refine⟨ca,cc,by rw[<-hrl];exact rt.c2,fun j hj=>?_⟩;obtain⟨b,off,e0,_,d0,_⟩:=rt.k.cl.rowAt.clt (j:=j) (by omega);exact⟨b,off,(kat rs j).num,e0,i64 (pcR (kat rs j)) (by rw[<-hr];exact aQ (kE (show j<rs.length by omega))),d0⟩
end
theorem St.all{r R:Nat->Rl}{LB:Nat}{L:Nat}{s:Ts}(h:St A T C r R LB PB BB B D L M w cs s)(hm:Sm T s)(hs:∀b,b<T.nb->Srt (s.held b))(hadj:∀a b,T.adj a b=true->a<T.nb/\b<T.nb)(hlk:(lks T).length<=14)(hL:L<=1099511620000){nxt:Nat->Nat->Int}{rank:Nat->Nat->Nat}{Ks:List Ky}{Mw:Nat}(W:Wl T nxt rank Ks cs s Mw):Calls prog 12 #[.pointer (some ⟨PB,0,none⟩),.bool true] w fun e w'=>e=.returned (.bool true)/\Bi A T C r R LB PB BB B D (L+1492) M nxt rank Ks Mw w cs s w':=by
 have LK:Hid (Calls prog 31 #[.pointer (some ⟨PB,0,none⟩)] w fun e w'=>e=.returned (.bool true)/\xL A T C r R LB PB BB B D (L+4) M w cs s w'):=(h.links hm (by omega)).mono (fun e w' he=>⟨he.1,xL.look (fun _ _ e=>e) (Kx.gr (Gr.refl w)) he.2⟩);have HL:Hid (∀(wr:World)(q:Nat)(a b:Int),q<=400->I64 b->xL A T C r R LB PB BB B D (L+4+q) M w cs s wr->Calls prog 32 #[.pointer (some ⟨PB,0,none⟩),.int .i64 a,.int .i64 b] wr fun e w'=>e=.returned (.bool true)/\xL A T C r R LB PB BB B D (L+4+q+4) M w cs s w'):=fun wr q a b hq hb ⟨B',i0,i1,i2⟩=>(i1.held hm hs hadj hlk (by omega) a b hb).mono (fun e w' he=>⟨he.1,xL.look i0 i2 he.2⟩);have HW:=hZ W;have hc16:=W.le;clear h hm hs hadj hlk W;go_enter func12,ntmps12;go_wp2_with fail;refine LK.mono ?_;rintro e w1 ⟨rfl,hi⟩;have HI:=hZ hi;clear hi LK;go_wp2_with fail;go_loopw [5,6] (fun ok b wr=>∃q:Nat,q<=10/\ok=.bool true/\b=.int .i64 ((q:Int)-1)/\Hid (xL A T C r R LB PB BB B D (L+4+40*q) M w cs s wr)) (fun _ b _=>(10-(intOf b+1)).toNat);case atStart=>exact⟨0,zZ,rfl,rfl,HI⟩
 case round=>
  obtain⟨q,hq,rfl,rfl,HQ⟩:=hrel;by_cases hlt:q<10
  ·(have hb9:(q:Int)-1<9:=by omega);go_wp2_with fail;go_loopw [5,7] (fun ok f w2=>∃p:Nat,p<=10/\ok=.bool true/\f=.int .i64 ((p:Int)-1)/\Hid (xL A T C r R LB PB BB B D (L+4+(40*q+4*p)) M w cs s w2)) (fun _ f _=>(10-(intOf f+1)).toNat);case atStart=>exact⟨0,zZ,rfl,rfl,HQ⟩
   case round=>
    clear HQ HI;obtain⟨p,hp,rfl,rfl,HP⟩:=hrel;by_cases hpl:p<10
    ·(have hf9:(p:Int)-1<9:=by omega);have CC:=hZ (HL wr (40*q+4*p) ((q:Int)-1) ((p:Int)-1) (by omega) ⟨by omega,by omega⟩ HP.out);go_wp2_with fail;refine CC.mono ?_;rintro e w3 ⟨rfl,hi⟩;have H3:=hZ hi;clear hi CC HP;go_wp2_with fail;go_roundw;case rel=>exact⟨p+1,by omega,rfl,by go_num,H3⟩
     case measure=>simp[intOf];omega
    ·(have hf9:¬(p:Int)-1<9:=by omega);have hpe:p=10:=by omega
     subst hpe;have H4:Hid (xL A T C r R LB PB BB B D (L+4+40*(q+1)) M w cs s wr):=HP.out;clear HP;go_wp2_with fail;go_roundw;case rel=>exact⟨q+1,by omega,rfl,by go_num,H4⟩
     case measure=>simp[intOf];omega
  ·(have hb9:¬(q:Int)-1<9:=by omega);have hqe:q=10:=by omega
   subst hqe;have J0:Hid (Bi A T C r R LB PB BB B D (L+404) M nxt rank Ks Mw w cs s wr):=HQ.j HW.out;clear HQ HI HW HL;go_wp2_with fail;go_loopw [5,8] (fun ok c w2=>∃j:Nat,j<=cs.length/\ok=.bool true/\c=.int .i64 j/\Hid (Bi A T C r R LB PB BB B D (L+404+68*j) M nxt rank Ks Mw w cs s w2)) (fun _ c _=>cs.length-(intOf c).toNat);case atStart=>exact⟨0,zZ,rfl,rfl,J0⟩
   case round=>
    clear J0;obtain⟨j,hj,rfl,rfl,J⟩:=hrel;obtain⟨p1,ca,cc,p2,row⟩:=J.clt;by_cases hlt2:j<cs.length
    ·obtain⟨b,off,n,rfl,hn,d0⟩:=row j hlt2;have CC:=hZ (J.inbox (by omega) n hn);clear row J;go_wp2_with fail;refine CC.mono ?_;rintro e w3 ⟨rfl,hi⟩;have H3:Hid (Bi A T C r R LB PB BB B D (L+404+68*(j+1)) M nxt rank Ks Mw w cs s w3):=hi;clear hi CC p1 p2 d0;go_wp2_with fail;exact⟨⟨j+1,hlt2,rfl,by simp,H3⟩,gD _ _ hlt2⟩
    ·clear row;go_wp2_with fail;go_ret;obtain⟨r',B',cs',h1,h2,h3,h4,h5⟩:=J.out;exact⟨rfl,r',B',cs',h1,h2,h3,⟨h4.pr,h4.bo.up (by omega),h4.le,h4.sB,h4.sD⟩,h5⟩
end Go.Proofs.YtecnfgikbmcgoabGreat
