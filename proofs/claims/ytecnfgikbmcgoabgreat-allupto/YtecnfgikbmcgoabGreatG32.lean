import Derived.Test.YtecnfgikbmcgoabGreatG31
set_option maxHeartbeats 8000000
set_option maxRecDepth 100000
namespace Go.Proofs.YtecnfgikbmcgoabGreat
open Go.Proofs.Tryz
open Go.RowKit
variable {A:Nat->Prop}{C:Rc}{Ls:List Rln}{OB PB i id:Nat}{T:Tc}{Xs:Nat->List Hm}{a0:Act}{ads:Nat->Option Addr×Nat}{code:Int}{cs:List (Pc (List Atr))}{lv:Value}{w w0 wa wb:World}
section
variable {P:Program}{ops:Array Oper}{Q:Exit->Act->World->Prop}
theorem Rr(hm:P.follows .mixedOrders=true)(last m:Nat)(hml:m<last)(hsz:ops.size=last+1)(dst:Nat->Nat)(hinj:∀i j,i<last->j<last->dst i=dst j->i=j)(hguard:∀(i:Nat)(o:Oper),ops[i]?=some o->o.guard=none)(hdag:∀(i:Nat)(o:Oper),ops[i]?=some o->∀e∈o.after,e.on<i)(hall:∀j,j<last->∃(k:Nat)(o:Oper),j<k/\k<=last/\ops[k]?=some o/\∃e∈o.after,Region.binds .any e=true/\e.on=j)(R:Nat->Value->World->Prop)(E:Act->Prop)(W:Bool->World->Prop)(Good:Nat->World->World->Prop)(hE:∀a i x,i<last->E a->E (a.put (some (dst i)) x))(hsize:∀a,E a->∀i,i<last->dst i<a.tmps.size)(hW:∀i t w w',i≠m->W t w->Good i w w'->W t w')(hWm:∀w w',W false w->Good m w w'->W true w')(hR:∀i j x w w',i≠j->R j x w->Good i w w'->R j x w')(hfront:∀(i:Nat)(o:Oper)(a:Act)(w:World)(t:Bool),ops[i]?=some o->i<last->(i=m->t=false)->E a->W t w->(∀e∈o.after,Region.binds .any e=true->R e.on (a.eval (.tmp (dst e.on))) w)->∀K:Act->World->Prop,(∀x w',Good i w w'->R i x w'->K (a.put (some (dst i)) x) w')->o.wp P a w K Q)(hlast:∀(o:Oper)(a:Act)(w:World),ops[last]?=some o->E a->W true w->(∀j,j<last->R j (a.eval (.tmp (dst j))) w)->∀K:Act->World->Prop,(∀a' w',Q .normal a' w'->K a' w')->o.wp P a w K Q)(h0:E a0)(hw0:W false w0.drew):(Code.region id ops true).wp P Q a0 w0:=by
 refine wp_region_any hm ?_;have main:∀(fuel:Nat)(listed:Array Bool)(a:Act)(w:World),listed.size=ops.size->listed.toList.count false<=fuel ->((listed.getD last true=false/\E a/\W (listed.getD m false) w/\(∀(j:Nat)(o:Oper),ops[j]?=some o->listed.getD j false=true->∀e∈o.after,Region.binds .any e=true->listed.getD e.on false=true)/\∀j,j<last->listed.getD j false=true->R j (a.eval (.tmp (dst j))) w)\/((∀i,i<ops.size->listed.getD i true=true)/\Q .normal a w)) ->wpAny P .any ops Q fuel listed a w:=by
  intro fuel
  induction fuel with
  |zero=>
   intro listed a w hs hc hI;have hz:∀i,i<ops.size->listed.getD i true=true:=by
    intro i hi;have h1:¬false∈listed.toList:=List.count_eq_zero.mp (by omega);(have h2:listed.getD i true=listed[i]'(by omega):=by simp[Array.getD,show i<listed.size by omega]);rw[h2];cases h3:listed[i]'(by omega)
    ·exact absurd (by rw[<-h3];simp) h1
    ·rfl
   rcases hI with⟨h1,_⟩|⟨_,h2⟩
   ·rw[hz last (by omega)] at h1;cases h1
   ·refine⟨?_,h2⟩;rw[fC];intro i hi;obtain⟨h3,o,ho,_⟩:=mem_ready.1 hi;rw[hz i (bL.1 ho).1] at h3;cases h3
  |succ fuel ih=>
   intro listed a w hs hc hI;constructor
   ·intro hr;rcases hI with⟨h1,_⟩|⟨_,h2⟩
    ·exfalso;have hleast:∀n,∀i,i<n->listed.getD i true=true:=by
      intro n
      induction n with
      |zero=>intro i hi;omega
      |succ n ihn=>
       intro i hi;by_cases hin:i<n
       ·exact ihn i hin
       ·(have hin:i=n:=by omega);subst hin;cases hf:listed.getD i true
        ·have hlt:=tS hf;have hm:i∈Region.ready .any ops listed:=mem_ready.2 ⟨hf,ops[i]'(by omega),bU (by omega),fun e he _=>by have hlt':=hdag i _ (bU (by omega)) e he;rw[lV (by omega) false true];exact ihn _ hlt'⟩;rw[hr] at hm;cases hm
        ·rfl
     rw[hleast (last+1) last (by omega)] at h1;cases h1
    ·exact h2
   ·intro i hi;obtain⟨h3,o,ho,hdep⟩:=mem_ready.1 hi;have hil:i<ops.size:=(bL.1 ho).1;rcases hI with⟨h1,hEa,hWw,hcl,hRs⟩|⟨h2,_⟩
    ·unfold wpOp;simp only[ho,Region.wanted,hguard i o ho,if_true];refine Or.inl ?_;have hcnt:(listed.setIfInBounds i true).toList.count false<=fuel:=by
      (have hl:i<listed.toList.length:=by simp;omega);rw[cR,List.count_set hl];have h4:listed.toList[i]=false:=by
       (have h2:listed.getD i true=listed[i]'(by omega):=by simp[Array.getD,show i<listed.size by omega]);rw[<-h3,h2];simp
      rw[h4,if_pos (by rfl),if_neg (by decide)];omega
     by_cases hil':i=last
     ·subst hil';have every:∀(d j:Nat),j+d=i->0<d->listed.getD j false=true:=by
       intro d
       induction d using Nat.strongRecOn with
       |ind d ihd=>
        intro j hj hd;obtain⟨k,ok,hjk,hki,hok,e,he,hb,hon⟩:=hall j (by omega);by_cases hkl:k=i
        ·subst hkl;rw[ho] at hok;injection hok with hok;subst hok;have:=hdep e he hb;rw[hon] at this;exact this
        ·have:=hcl k ok hok (ihd (i-k) (by omega) k (by omega) (by omega)) e he hb;rw[hon] at this;exact this
      (have hWt:W true w:=by rw[every (i-m) m (by omega) (by omega)] at hWw;exact hWw);refine hlast o a w ho hEa hWt (fun j hj=>hRs j hj (every (i-j) j (by omega) (by omega))) _ (fun a' w' hq=>ih _ _ _ (by simpa using hs) hcnt (Or.inr ⟨fun k hk=>?_,hq⟩));by_cases hki:i=k
      ·subst hki;exact lM (by omega) _
      ·rw[hU hki,lV (by omega) true false];exact every (i-k) k (by omega) (by omega)
     ·(have hil2:i<last:=by omega);refine hfront i o a w (listed.getD m false) ho hil2 (fun e=>by rw[<-e,lV (by omega) false true];exact h3) hEa hWw (fun e he hb=>hRs _ ?_ (hdep e he hb)) _ (fun x w' hg hr=>?_)
      ·have:=hdag i o ho e he;omega
      ·refine ih _ _ _ (by simpa using hs) hcnt (Or.inl ⟨by rw[hU hil'];exact h1,hE _ _ _ hil2 hEa,?_,?_,fun j hj hl=>?_⟩)
       ·by_cases him:i=m
        ·rw[<-him,lM (by omega)];(have hf:listed.getD m false=false:=by rw[<-him,lV (by omega) false true];exact h3);rw[hf] at hWw;exact hWm _ _ hWw (him▸hg)
        ·rw[hU him];exact hW _ _ _ _ him hWw hg
       ·intro j oj hoj hl e he hb;by_cases hij:i=j
        ·subst hij;rw[ho] at hoj;injection hoj with hoj;subst hoj;have:=hdag i o ho e he;rw[hU (by omega)];exact hdep e he hb
        ·rw[hU hij] at hl;have:=hcl j oj hoj hl e he hb;by_cases hie:i=e.on
         ·rw[<-hie] at this;rw[lV (by omega) true false,this] at h3;cases h3
         ·rw[hU hie];exact this
       by_cases hij:i=j
       ·subst hij;rw[pT (hsize _ hEa _ hil2)];exact hr
       ·rw[hU hij] at hl;rw[iX (fun he=>hij (hinj _ _ hil2 hj he))];exact hR _ _ _ _ _ hij (hRs j hj hl) hg
    ·rw[h2 i hil] at h3;cases h3
 have e0:∀n:Nat,(Array.replicate n false).getD m false=false:=fun n=>by by_cases hh:m<n<;>simp[Array.getD,hh]
 refine main _ _ _ _ (by simp) ?_ (Or.inl ⟨?_,h0,(e0 ops.size).symm▸hw0,fun j o _ hl=>?_,fun j hj hl=>?_⟩)
 ·simp
 ·simp[Array.getD,hsz]
 ·simp[Array.getD] at hl
 ·simp[Array.getD] at hl
theorem nI(hm:P.follows .mixedOrders=true)(last m:Nat)(hml:m<last)(hs:pK ops last=true)(dst:Nat->Nat)(hinj:∀i,i<last->∀j,j<last->dst i=dst j->i=j)(R:Nat->Value->World->Prop)(E:Act->Prop)(W:Bool->World->Prop)(Good:Nat->World->World->Prop)(hE:∀a i x,i<last->E a->E (a.put (some (dst i)) x))(hsize:∀a,E a->∀i,i<last->dst i<a.tmps.size)(hW:∀i t w w',i≠m->W t w->Good i w w'->W t w')(hWm:∀w w',W false w->Good m w w'->W true w')(hR:∀i j x w w',i≠j->R j x w->Good i w w'->R j x w')(hfront:∀(i:Nat)(o:Oper)(a:Act)(w:World)(t:Bool),ops[i]?=some o->i<last->(i=m->t=false)->E a->W t w->(∀e∈o.after,Region.binds .any e=true->R e.on (a.eval (.tmp (dst e.on))) w)->∀K:Act->World->Prop,(∀x w',Good i w w'->R i x w'->K (a.put (some (dst i)) x) w')->o.wp P a w K Q)(hlast:∀(o:Oper)(a:Act)(w:World),ops[last]?=some o->E a->W true w->(∀j,j<last->R j (a.eval (.tmp (dst j))) w)->∀K:Act->World->Prop,(∀a' w',Q .normal a' w'->K a' w')->o.wp P a w K Q)(h0:E a0)(hw0:W false w0.drew):(Code.region id ops true).wp P Q a0 w0:=Rr hm last m hml (oK hs) dst (fun i j hi hj h=>hinj i hi j hj h) (fun _ _ ho=>(nH hs ho).1) (fun _ _ ho=>(nH hs ho).2) (sO hs) R E W Good hE hsize hW hWm hR hfront hlast h0 hw0
end
def Kq(r R r' R':Nat->Rl)(B D:Nat->Prop)(w w':World):Prop:=Kx (Oz r R B D) w w'/\∀k,k<w.heap.size->(r k=.no->r' k=.no)/\(R k=.no->R' k=.no)
theorem St.both{r R:Nat->Rl}{LB BB:Nat}{B D:Nat->Prop}{L M:Nat}{s:Ts}(h:St A T C r R LB PB BB B D L M w cs s){r1 R2:Nat->Rl}{w1 w2:World}{cs':List (Pc (List Atr))}{s':Ts}(g1:Fr r r1 w w1)(p1:Tf T r1 w1 cs' s')(g2:Fr R R2 w1 w2)(q2:Rw A C T R2 w2 cs' s'):St A T C r1 R2 LB PB BB B D L M w2 cs' s'/\Kq r R r1 R2 B D w w2:=by
 obtain⟨a1,a2⟩:=h.pr.both g1 p1 g2 q2 (fun _=>False);have sm:∀k,k<w.heap.size->r1 k=r k/\R2 k=R k:=fun k hk=>⟨g1.same k hk,g2.same k (aF hk g1.size)⟩;have kx:Kx (fun k=>r k≠.no\/R k≠.no) w w2:=⟨a2.os,a2.tape,a2.output,a2.size,fun k hk hn=>a2.keep k hk (Uk.2 ⟨dG.1 (fun e=>hn (Or.inl e)),dG.1 (fun e=>hn (Or.inr e)),fun e=>e⟩)⟩;have tA:=h.pr.q.top.2;have aR:∀k,A k->R k=.no:=by obtain⟨ads,Xs,lv,Ls,cv,rs,rt,_⟩:=h.pr.q;exact rt.b.aR
 refine⟨⟨a1,h.bo.apart kx (fun k hk e=>?_),h.le.apart kx (fun k hk e=>?_) (fun k hk e=>?_),fun k hk=>?_,fun k hk=>?_⟩,⟨kx.wide (fun k _ e=>e.imp id Or.inl),fun k hk=>⟨fun e=>(sm k hk).1.trans e,fun e=>(sm k hk).2.trans e⟩⟩⟩
 ·exact e.elim (fun e=>e (h.sB k hk).1) (fun e=>e (h.sB k hk).2.1)
 ·exact e.elim (fun e=>e (h.sD k hk).1) (fun e=>e (h.sD k hk).2.1)
 ·exact e.elim (fun e=>e (h.pr.ar k hk)) (fun e=>e (aR k hk))
 ·have:=sm k (h.bo.lt k hk);rw[this.1,this.2];exact h.sB k hk
 ·have:=sm k (h.le.lt k hk);rw[this.1,this.2];exact h.sD k hk
def TfP(T:Tc)(r:Nat->Rl)(code:Int)(cs':List (Pc (List Atr)))(s':Ts)(w:World)(e:Ending)(w':World):Prop:=e=.returned (.int .i64 code)/\∃r',Tf T r' w' cs' s'/\Fr r r' w w'
theorem TfP.none'{r:Nat->Rl}{s:Ts}{e:Ending}{w':World}(h:Tf T r w cs s)(he:e=.returned (.int .i64 code)/\Gr w w'):TfP T r code cs s w e w':=⟨he.1,r,h.gr he.2,Fr.gr he.2⟩
theorem Ie{r R:Nat->Rl}{s:Ts}(h:Tf T r w cs s)(hq:Rw A C T R w cs s)(n b:Int)(hn:I64 n)(hl:cs.length<=16):∃(code:Int)(cs':List (Pc (List Atr))),(cs'=cs\/∃b':Nat,b=(b':Int)/\b'<T.nb/\(∀c∈cs,c.num≠n)/\cs.length<16/\cs'=cs++[⟨n,b',0,[]⟩]) /\(∀W,Gr w W->Calls prog 16 #[.pointer (some ⟨T.TB,0,none⟩),.int .i64 n,.int .i64 b] W fun e w'=>TfP T r code cs' s W e w') /\∀W,Rw A C T R W cs s->Calls prog 17 #[.pointer (some ⟨C.TB,0,none⟩),.int .i64 n,.int .i64 b] W fun e w'=>RwP A C T R code cs' s W e w':=by
 obtain⟨cls,hT,hcs⟩:=h;by_cases hb:b<0\/(T.nb:Int)<=b
 ·refine⟨5,cs,Or.inl rfl,fun W g=>(Lb T r W cls s n b (hT.gr g) hb).mono (fun e w' he=>TfP.none' ⟨cls,hT.gr g,hcs⟩ he),fun W hW=>?_⟩;obtain⟨ads,Xs,lv,Ls,cv,rs,rt,hnb,rv,hr⟩:=hW;refine(Ft C.TB C.HB C.nb C.hcap W n b rt.c0 (by rw[hnb];exact hb)).mono ?_;rintro e w' ⟨he,rfl⟩;exact⟨he,R,⟨ads,Xs,lv,Ls,cv,rs,rt,hnb,rv,hr⟩,Fr.refl _ _⟩
 ·obtain⟨b',rfl⟩:∃b':Nat,b=(b':Int):=⟨b.toNat,by omega⟩;have hb':b'<T.nb:=by omega
  by_cases ht:∃c∈cs,c.num=n
  ·obtain⟨c,hc,rfl⟩:=ht;subst hcs;obtain⟨x,hx,rfl⟩:=aC.1 hc;refine⟨6,_,Or.inl rfl,fun W g=>(Eu T r W cls s b' x (hT.gr g) hb' hx).mono (fun e w' he=>TfP.none' ⟨cls,hT.gr g,rfl⟩ he),fun W hW=>?_⟩;obtain⟨ads,Xs,lv,Ls,cv,rs,rt,hnb,rv,hr⟩:=hW;obtain⟨ca,cc,rfl⟩:=rt.k.cl.shape;(have hrl:rs.length<=16:=by rw[<-aB (f:=pcR),hr];exact hl);(have hex:∃d∈rs,d.num=(jH x).num:=by rw[<-hr] at hc;obtain⟨d,hd,e⟩:=aC.1 hc;exact⟨d,hd,by rw[<-e];rfl⟩);refine(yU C.TB C.HB C.nb C.hcap ca cc rs W _ b' (by omega) rt.c0 rt.c2 rt.k.cl.rowAt hrl (Or.inl hex)).mono ?_;rintro e w' ⟨he,_,rfl⟩;exact⟨he hex,R,⟨ads,Xs,lv,Ls,_,rs,rt,hnb,rv,hr⟩,Fr.refl _ _⟩
  ·have hne:∀c∈cs,c.num≠n:=fun c hc e=>ht ⟨c,hc,e⟩;have hne':∀x∈cls,x.num≠n:=fun x hx e=>hne (jH x) (by rw[<-hcs];exact aQ hx) e;(have hll:cls.length=cs.length:=by rw[<-hcs,aB]);by_cases hf:cs.length=16
   ·refine⟨7,cs,Or.inl rfl,fun W g=>(Iw T r W cls s n b' (hT.gr g) hn hb' hne' (by omega) (by omega)).mono (fun e w' he=>TfP.none' ⟨cls,hT.gr g,hcs⟩ he),fun W hW=>?_⟩;obtain⟨ads,Xs,lv,Ls,cv,rs,rt,hnb,rv,hr⟩:=hW;obtain⟨ca,cc,rfl⟩:=rt.k.cl.shape;(have hrl:rs.length=16:=by rw[<-aB (f:=pcR),hr];exact hf);refine(yU C.TB C.HB C.nb C.hcap ca cc rs W _ b' (by omega) rt.c0 rt.c2 rt.k.cl.rowAt (by omega) (Or.inr (by omega))).mono ?_;rintro e w' ⟨_,he,rfl⟩;exact⟨he (fun d hd e=>hne (pcR d) (by rw[<-hr];exact aQ hd) e),R,⟨ads,Xs,lv,Ls,_,rs,rt,hnb,rv,hr⟩,Fr.refl _ _⟩
   ·refine⟨0,cs++[⟨n,b',0,[]⟩],Or.inr ⟨b',rfl,hb',hne,by omega,rfl⟩,fun W g=>(Lc T r W cls s n b' (hT.gr g) hn hb' hne' (by omega)).mono ?_,fun W hW=>?_⟩
    ·rintro e w' ⟨he,r',k,q,h1,h2⟩;exact⟨he,r',⟨_,h1,by rw[aS,hcs];rfl⟩,h2⟩
    ·obtain⟨ads,Xs,lv,Ls,cv,rs,rt,hnb,rv,hr⟩:=hW;(have hrl:rs.length=cs.length:=by rw[<-hr,aB]);refine(Je A C R W ads Xs lv cv Ls rs rt n b' (by omega) (fun d hd e=>hne (pcR d) (by rw[<-hr];exact aQ hd) e) (by omega)).mono ?_;rintro e w' ⟨he,R',cv',h1,h2⟩;exact⟨he,R',⟨ads,Xs,lv,Ls,cv',_,h1,hnb,rv,by rw[aS,hr];rfl⟩,h2⟩
def lK(wh kind a b:Int)(fad:Option Addr)(fn fc:Nat)(ead:Option Addr)(en ec:Nat):Value:=.agg #[.int .i64 wh,.int .i64 kind,.int .i64 a,.int .i64 b,.slice fad fn fc,.slice ead en ec]
def xK(T:Tc)(r:Nat->Rl)(cs':List (Pc (List Atr)))(s':Ts)(w:World)(OB:Nat)(o:Obj)(w1:World):Prop:=∃r1,Tf T r1 w1 cs' s'/\Fr r r1 w w1/\w1.heap[OB]?=some o
def RsA(PB TB OB:Nat)(a b code:Int)(j:Nat)(x:Value)(_:World):Prop:=
 match j with
 |0=>x=.pointer (some ⟨PB,0,none⟩)
 |1=>x=.pointer (some ⟨PB,0,none⟩)
 |2=>x=.pointer (some ⟨PB,0,none⟩)
 |3=>x=.pointer (some ⟨TB,0,none⟩)
 |4=>x=.pointer (some ⟨OB,2,none⟩)
 |5=>x=.int .i64 a
 |6=>x=.pointer (some ⟨OB,3,none⟩)
 |7=>x=.int .i64 b
 |8=>x=.int .i64 code
 |_=>True
theorem RsA.st{TB:Nat}{a b:Int}(j:Nat)(x:Value)(wa wb:World)(h:RsA PB TB OB a b code j x wa):RsA PB TB OB a b code j x wb:=by
 match j,h with
 |0,h=>exact h
 |1,h=>exact h
 |2,h=>exact h
 |3,h=>exact h
 |4,h=>exact h
 |5,h=>exact h
 |6,h=>exact h
 |7,h=>exact h
 |8,h=>exact h
 |_+9,_=>trivial
def RsB(PB TB OB:Nat)(a b code:Int)(j:Nat)(x:Value)(_:World):Prop:=
 match j with
 |0=>x=.int .i64 code
 |1=>x=.int .i64 code
 |2=>x=.pointer (some ⟨PB,0,none⟩)
 |3=>x=.pointer (some ⟨PB,0,none⟩)
 |4=>x=.pointer (some ⟨PB,1,none⟩)
 |5=>x=.pointer (some ⟨TB,0,none⟩)
 |6=>x=.pointer (some ⟨OB,2,none⟩)
 |7=>x=.int .i64 a
 |8=>x=.pointer (some ⟨OB,3,none⟩)
 |9=>x=.int .i64 b
 |10=>x=.int .i64 code
 |11=>x=.bool true
 |_=>True
theorem RsB.st{TB:Nat}{a b:Int}(j:Nat)(x:Value)(wa wb:World)(h:RsB PB TB OB a b code j x wa):RsB PB TB OB a b code j x wb:=by
 match j,h with
 |0,h=>exact h
 |1,h=>exact h
 |2,h=>exact h
 |3,h=>exact h
 |4,h=>exact h
 |5,h=>exact h
 |6,h=>exact h
 |7,h=>exact h
 |8,h=>exact h
 |9,h=>exact h
 |10,h=>exact h
 |11,h=>exact h
 |_+12,_=>trivial
def Cx(A:Nat->Prop)(T:Tc)(C:Rc)(r R:Nat->Rl)(w:World)(cs:List (Pc (List Atr)))(s:Ts)(fp fr:Nat)(a b:Int)(Ch:List (Pc (List Atr))->Ts->Prop):Prop:=∃(code:Int)(cs':List (Pc (List Atr)))(s':Ts),Ch cs' s'/\(∀W,Gr w W->Calls prog fp #[.pointer (some ⟨T.TB,0,none⟩),.int .i64 a,.int .i64 b] W fun e w'=>TfP T r code cs' s' W e w') /\∀W,Rw A C T R W cs s->Calls prog fr #[.pointer (some ⟨C.TB,0,none⟩),.int .i64 a,.int .i64 b] W fun e w'=>RwP A C T R code cs' s' W e w'
def Ir(A:Nat->Prop)(T:Tc)(C:Rc)(r R:Nat->Rl)(LB PB BB:Nat)(B D:Nat->Prop)(L M:Nat)(Ch:List (Pc (List Atr))->Ts->Prop)(w:World)(e:Ending)(w':World):Prop:=e=.returned (.bool true)/\∃r' R' cs' s',Ch cs' s'/\St A T C r' R' LB PB BB B D L M w' cs' s'/\Kq r R r' R' B D w w'
abbrev Bev:=List Atr×Option Addr×Nat
def tN(c:Rcl)(x:List Bev)(a:Option Addr)(k:Nat):Rcl:={ c with box:=x,bad:=a,bcap:=k }
def Bs(c:Rcl)(n:Int):Rcl:={ c with lost:=n }
theorem xT{cs:List Rcl}{k:Nat}(hk:k<cs.length)(c:Rcl)(j:Nat):kat (cs.set k c) j=if j=k then c else kat cs j:=by
 unfold kat;rw[aI,dV];by_cases e:k=j
 ·subst e;simp[hk]
 ·rw[if_neg e,if_neg (fun h=>e h.symm),aI]
theorem rO(x:List Bev)(a:Option Addr)(c:Nat):∀(cs:List Rcl)(k:Nat),k<cs.length->iF (cs.set k (tN (kat cs k) x a c))=(iF cs).set (k*4+2) (.slice a x.length c)
 |[],k,h=>by simp at h
 |y::l,0,_=>by simp[iF,rP,tN,kat]
 |y::l,k+1,h=>by
  have ih:=rO x a c l k (by simpa using h);have e:(k+1)*4+2=k*4+2+4:=by omega
  have hk:kat (y::l) (k+1)=kat l k:=by simp[kat]
  have c1:∀(z:Rcl)(t:List Rcl),iF (z::t)=rP z++iF t:=fun z t=>by simp[iF]
  rw[fE,hk,c1,c1,ih,e];simp[rP]
theorem qQ(n:Int):∀(cs:List Rcl)(k:Nat),k<cs.length->iF (cs.set k (Bs (kat cs k) n))=(iF cs).set (k*4+3) (.int .i64 n)
 |[],k,h=>by simp at h
 |y::l,0,_=>by simp[iF,rP,Bs,kat]
 |y::l,k+1,h=>by
  have ih:=qQ n l k (by simpa using h);have e:(k+1)*4+3=k*4+3+4:=by omega
  have hk:kat (y::l) (k+1)=kat l k:=by simp[kat]
  have c1:∀(z:Rcl)(t:List Rcl),iF (z::t)=rP z++iF t:=fun z t=>by simp[iF]
  rw[fE,hk,c1,c1,ih,e];simp[rP]
section
variable {A:Nat->Prop}{C:Rc}{R:Nat->Rl}{w:World}{ads:Nat->Option Addr×Nat}{Xs:Nat->List Hm}{lv cv:Value}{Ls:List Rln}{cs:List Rcl}
theorem Rt.wcl(h:Rt A C R w ads Xs lv Ls cv cs){k:Nat}(hk:k<cs.length)(c':Rcl)(j:Nat)(u:Value)(hj:iF (cs.set k c')=(iF cs).set (k*4+j) u)(hq:Qr w 41 1 (fun i=>R i=.ch k) (.slice c'.bad c'.box.length c'.bcap) c'.box.length (c'.box.map bv))(he:∀x∈c'.box,EvO A w x.2.1 x.1){g off lc:Nat}(hcv:cv=.slice (some ⟨g,off,none⟩) cs.length lc):Rt A C R (w.setCell ⟨g,off+(k*4+j),none⟩ u) ads Xs lv Ls cv (cs.set k c')/\Fr R R w (w.setCell ⟨g,off+(k*4+j),none⟩ u):=by
 have hg:R g=.cl 0/\g<w.heap.size:=h.k.cl.own g (by rw[hcv];rfl);have hs:w.heap.size<=(w.setCell ⟨g,off+(k*4+j),none⟩ u).heap.size:=by rw[gY];exact lZ
 have ke:∀i,R i≠.cl 0->(w.setCell ⟨g,off+(k*4+j),none⟩ u).heap[i]?=w.heap[i]?:=fun i hi=>Below.heap_setCell w _ u i (fun e=>hi (by have e:i=g:=e;rw[e];exact hg.1));have ne:∀{i:Nat}{x:Rl},R i=x->x≠.cl 0->R i≠.cl 0:=fun e hx=>by rw[e];exact hx
 have kA:∀i,A i->R i≠.cl 0:=fun i hi=>ne (h.b.aR i hi) (fun e=>by cases e);refine⟨⟨h.b.keep hs (fun i _ hr=>ke i ?_) (fun _ _=>rfl) (fun i hi=>h.b.top i (aA hs hi)) h.b.aR,h.h.keep hs (fun i _ hr=>ke i ?_) (fun _ _=>rfl),h.l.keep hs (fun i _ hr=>ke i ?_) (fun _ _=>rfl),⟨?_,fun i hi=>?_,fun c hc x hx=>?_⟩⟩,⟨rfl,rfl,rfl,hs,fun i _ hr=>ke i ?_,fun _ _=>rfl⟩⟩
 ·rcases hr with hr|hr<;>exact ne hr (fun e=>by cases e)
 ·rcases hr with hr|hr
  ·exact ne hr (fun e=>by cases e)
  ·exact kA i hr
 ·rcases hr with hr|⟨j,hr⟩|hr|hr
  ·exact ne hr (fun e=>by cases e)
  ·exact ne hr (fun e=>by cases e)
  ·exact ne hr (fun e=>by cases e)
  ·exact kA i hr
 ·rw[hj,bR,hcv];have:=h.k.cl;rw[hcv] at this;exact this.set _ u
 ·rw[bR] at hi;rw[xT hk];split
  ·rename_i e;subst e;exact hq.kept fun b _ hb=>⟨ke b (ne hb (fun e=>by cases e)),hb⟩
  ·exact(h.k.bx i hi).kept fun b _ hb=>⟨ke b (ne hb (fun e=>by cases e)),hb⟩
 ·refine EvO.keep (w:=w) ?_ hs (fun i _ hi=>ke i (kA i hi));rcases fR hc with hc|hc
  ·exact h.k.be c hc x hx
  ·subst hc;exact he x hx
 ·rcases hr with hr|hr<;>exact ne hr (fun e=>by cases e)
theorem Rt.grownB(h:Rt A C R w ads Xs lv Ls cv cs){k:Nat}(hk:k<cs.length){w1:World}{v':Value}(hg:w.grownBy w1 (Value.ownBlock (.slice (kat cs k).bad (kat cs k).box.length (kat cs k).bcap)))(hq:∀i,v'.ownBlock=some i->i<w1.heap.size)(hold:Qr w1 41 1 (fun i=>R i=.ch k) (.slice (kat cs k).bad (kat cs k).box.length (kat cs k).bcap) (kat cs k).box.length ((kat cs k).box.map bv))(ho:v'.ownBlock=Value.ownBlock (.slice (kat cs k).bad (kat cs k).box.length (kat cs k).bcap)\/∃j,w.heap.size<=j/\v'.ownBlock=some j):Rt A C (fun i=>if v'.ownBlock=some i then .ch k else R i) w1 ads Xs lv Ls cv cs/\Fr R (fun i=>if v'.ownBlock=some i then .ch k else R i) w w1:=by
 have hown:=(h.k.bx k hk).own;have hs:=hg.size;have hsame:∀i,i<w.heap.size->(if v'.ownBlock=some i then Rl.ch k else R i)=R i:=by
  intro i hi;split
  ·rename_i e;rcases ho with h1|⟨j,hj,h1⟩
   ·rw[h1] at e;exact(hown i e).1.symm
   ·rw[h1] at e;injection e with e;omega
  ·rfl
 have ke:∀i,i<w.heap.size->R i≠.ch k->w1.heap[i]?=w.heap[i]?:=fun i hi h2=>hg.block i hi (fun e=>h2 (hown i e.symm).1);have ne:∀{i:Nat}{x:Rl},R i=x->x≠.ch k->R i≠.ch k:=fun e hx=>by rw[e];exact hx
 have kA:∀i,A i->R i≠.ch k:=fun i hi=>ne (h.b.aR i hi) (fun e=>by cases e);have htop:∀i,w1.heap.size<=i->(if v'.ownBlock=some i then Rl.ch k else R i)=.no:=by intro i hi;rw[if_neg (fun e=>by have:=hq i e;omega)];exact h.b.top i (aA hs hi)
 have haR:∀i,A i->(if v'.ownBlock=some i then Rl.ch k else R i)=.no:=by intro i hi;rw[hsame i (h.b.aL i hi)];exact h.b.aR i hi
 refine⟨⟨h.b.keep hs (fun i hi hr=>ke i hi ?_) hsame htop haR,h.h.keep hs (fun i hi hr=>ke i hi ?_) hsame,h.l.keep hs (fun i hi hr=>ke i hi ?_) hsame,⟨?_,fun j hj=>?_,fun c hc x hx=>?_⟩⟩,⟨hg.os,hg.tape,hg.output,hs,fun i hi hr=>ke i hi ?_,hsame⟩⟩
 ·rcases hr with hr|hr<;>exact ne hr (fun e=>by cases e)
 ·rcases hr with hr|hr
  ·exact ne hr (fun e=>by cases e)
  ·exact kA i hr
 ·rcases hr with hr|⟨j,hr⟩|hr|hr
  ·exact ne hr (fun e=>by cases e)
  ·exact ne hr (fun e=>by cases e)
  ·exact ne hr (fun e=>by cases e)
  ·exact kA i hr
 ·exact h.k.cl.kept fun b hb hR=>⟨ke b hb (ne hR (fun e=>by cases e)),(hsame b hb).trans hR⟩
 ·by_cases e:j=k
  ·subst e;have lt:∀i,Value.ownBlock (.slice (kat cs j).bad (kat cs j).box.length (kat cs j).bcap)=some i->i<w.heap.size:=fun i hi=>(hown i hi).2;refine⟨hold.1,?_⟩;rcases hold.2 with h2|⟨g,off,cap,cur,hv,hR,hh,r⟩
   ·exact Or.inl h2
   ·exact Or.inr ⟨g,off,cap,cur,hv,(hsame g (lt g (by rw[hv];rfl))).trans hR,hh,r⟩
  ·refine(h.k.bx j hj).kept fun b hb hR=>⟨ke b hb (ne hR (fun e'=>?_)),(hsame b hb).trans hR⟩;injection e' with e';exact e (by exact_mod_cast e')
 ·exact(h.k.be c hc x hx).keep hs (fun i hi ha=>ke i hi (kA i ha))
 ·rcases hr with hr|hr<;>exact ne hr (fun e=>by cases e)
theorem Rt.hearB(h:Rt A C R w ads Xs lv Ls cv cs){k:Nat}(hk:k<cs.length)(x:Bev)(hx:EvO A w x.2.1 x.1){w1:World}{a':Option Addr}{c':Nat}(hq:Qr w1 41 1 (fun i=>Value.ownBlock (.slice a' ((kat cs k).box.length+1) c')=some i) (.slice a' ((kat cs k).box.length+1) c') ((kat cs k).box.length+1) ((kat cs k).box.map bv++[bv x]))(hg:w.grownBy w1 (Value.ownBlock (.slice (kat cs k).bad (kat cs k).box.length (kat cs k).bcap)))(hold:Qr w1 41 1 (fun i=>R i=.ch k) (.slice (kat cs k).bad (kat cs k).box.length (kat cs k).bcap) (kat cs k).box.length ((kat cs k).box.map bv))(ho:Value.ownBlock (.slice a' ((kat cs k).box.length+1) c')=Value.ownBlock (.slice (kat cs k).bad (kat cs k).box.length (kat cs k).bcap)\/∃j,w.heap.size<=j/\Value.ownBlock (.slice a' ((kat cs k).box.length+1) c')=some j){g off lc:Nat}(hcv:cv=.slice (some ⟨g,off,none⟩) cs.length lc):∃R',Rt A C R' (w1.setCell ⟨g,off+(k*4+2),none⟩ (.slice a' ((kat cs k).box.length+1) c')) ads Xs lv Ls cv (cs.set k (tN (kat cs k) ((kat cs k).box++[x]) a' c'))/\Fr R R' w (w1.setCell ⟨g,off+(k*4+2),none⟩ (.slice a' ((kat cs k).box.length+1) c')):=by
 obtain⟨h1,f1⟩:=h.grownB hk hg (fun i hi=>(hq.own i hi).2) hold ho;have hA:∀i,i<w.heap.size->A i->w1.heap[i]?=w.heap[i]?:=fun i hi ha=>f1.keep i hi (Or.inl (h.b.aR i ha));have hl:((kat cs k).box++[x]).length=(kat cs k).box.length+1:=by simp
 obtain⟨h2,f2⟩:=h1.wcl hk (tN (kat cs k) ((kat cs k).box++[x]) a' c') 2 (.slice a' ((kat cs k).box.length+1) c') (by rw[rO _ _ _ cs k hk,hl]) (by
   simp only[tN];rw[hl,aS];exact hq.kept fun b _ hb=>⟨rfl,if_pos hb⟩) (fun y hy=>by
   simp only[tN] at hy;rcases aE.1 hy with hy|hy
   ·exact h1.k.be _ (kE hk) y hy
   ·rw[aM.1 hy];exact hx.keep hg.size hA) hcv
 exact⟨_,h2,f1.trans f2⟩
end
structure SgC where
 e:TypeId
 size:Nat
 js:Nat
 ja:Nat
 v:Value
 qn:Nat
 xs:List Value
 Rv:Nat->Prop
 ms:List Value
 w1:World
 vs:Nat->Value
def Rsg(c:SgC)(j:Nat)(x:Value)(w:World):Prop:=
 if j=c.js then ∃g,x=.slice (some ⟨g,0,none⟩) 1 1/\c.w1.heap.size<=g/\w.heap[g]?=some (.cells c.ms.toArray c.e (0,0))
 else if j=c.ja then(∃a m cap,x=.slice a m cap)/\Qr w c.e c.size (fun k=>x.ownBlock=some k) x (c.qn+1) (c.xs++c.ms)/\(x.ownBlock=c.v.ownBlock\/∃k,c.w1.heap.size<=k/\x.ownBlock=some k)
 else x=c.vs j
structure Gsg(c:SgC)(i:Nat)(wa wb:World):Prop where
 g:wa.grownBy wb c.v.ownBlock
 q:Qr wa c.e c.size c.Rv c.v c.qn c.xs->Qr wb c.e c.size c.Rv c.v c.qn c.xs
 r:i≠c.ja->Gr wa wb
variable {c:SgC}
theorem Gsg.gr(g:Gr wa wb):Gsg c i wa wb:=⟨⟨g.os,g.tape,g.output,g.size,fun k hk _=>g.block k hk⟩,fun h=>h.kept fun k hk hR=>⟨g.block k hk,hR⟩,fun _=>g⟩
def Wsg(c:SgC)(w:World):Prop:=c.w1.grownBy w c.v.ownBlock/\Qr w c.e c.size c.Rv c.v c.qn c.xs
theorem Rsg.keep(hv:∀k,c.v.ownBlock=some k->k<c.w1.heap.size)(i j:Nat)(x:Value)(wa wb:World)(hij:i≠j)(h:Rsg c j x wa)(g:Gsg c i wa wb):Rsg c j x wb:=by
 unfold Rsg at h ⊢;by_cases h1:j=c.js
 ·rw[if_pos h1] at h ⊢;obtain⟨q,h1,h2,h3⟩:=h;exact⟨q,h1,h2,(g.g.block q (fZ h3) (fun e=>by have:=hv q e.symm;omega)).trans h3⟩
 ·rw[if_neg h1] at h ⊢;by_cases h2:j=c.ja
  ·rw[if_pos h2] at h ⊢;exact⟨h.1,h.2.1.kept fun k hk hR=>⟨(g.r (fun e=>hij (e.trans h2.symm))).block k hk,hR⟩,h.2.2⟩
  ·rw[if_neg h2] at h ⊢;exact h
theorem Wsg.step(h:Wsg c wa)(g:Gsg c i wa wb):Wsg c wb:=⟨⟨g.g.os.trans h.1.os,g.g.tape.trans h.1.tape,g.g.output.trans h.1.output,aA h.1.size g.g.size,fun k hk hn=>(g.g.block k (aF hk h.1.size) hn).trans (h.1.block k hk hn)⟩,g.q h.2⟩
def sgB(TB g off n cc p:Nat)(v:Value)(qn:Nat)(xs:List Value)(Rv:Nat->Prop)(ev:Value)(w1:World):SgC:=⟨41,1,14,15,v,qn,xs,Rv,[ev],w1,fun j=>[.pointer (some ⟨TB,0,none⟩),.pointer (some ⟨TB,0,none⟩),.pointer (some ⟨TB,2,none⟩),.slice (some ⟨g,off,none⟩) n cc,.int .i64 p,.pointer (some ⟨TB,0,none⟩),.pointer (some ⟨TB,0,none⟩),.pointer (some ⟨TB,2,none⟩),.slice (some ⟨g,off,none⟩) n cc,.int .i64 p,.pointer (some ⟨g,off+p*4,none⟩),.pointer (some ⟨g,off+p*4+2,none⟩),v,ev,undef,undef,.pointer (some ⟨g,off+p*4,none⟩),.pointer (some ⟨g,off+p*4+2,none⟩)].getD j undef⟩
def sgV(TB g off n cc p:Nat)(v:Value)(qn:Nat)(xs:List Value)(Rv:Nat->Prop)(ev:Value)(w1:World):SgC:=⟨152,5,15,16,v,qn,xs,Rv,[.int .i64 3,.int .i64 0,.int .i64 0,.slice none 0 0,ev],w1,fun j=>[.pointer (some ⟨TB,0,none⟩),.pointer (some ⟨TB,0,none⟩),.pointer (some ⟨TB,1,none⟩),.slice (some ⟨g,off,none⟩) n cc,.int .i64 p,.pointer (some ⟨TB,0,none⟩),.pointer (some ⟨TB,0,none⟩),.pointer (some ⟨TB,1,none⟩),.slice (some ⟨g,off,none⟩) n cc,.int .i64 p,.pointer (some ⟨g,off+p*4,none⟩),.pointer (some ⟨g,off+p*4+2,none⟩),v,ev,.agg #[.int .i64 3,.int .i64 0,.int .i64 0,.slice none 0 0,ev],undef,undef,.pointer (some ⟨g,off+p*4,none⟩),.pointer (some ⟨g,off+p*4+2,none⟩)].getD j undef⟩
theorem Po(x:List UInt8):Op.bytesLess x x=false:=by
 have h:=pI x x;cases hb:Op.bytesLess x x
 ·rfl
 ·rw[hb] at h;simp at h
theorem wX:∀x y z:List UInt8,Op.bytesLess x y=true->Op.bytesLess y z=true->Op.bytesLess x z=true
 |[],y,[],h1,h2=>by cases y<;>simp[Op.bytesLess] at h2
 |[],_,_::_,_,_=>by simp[Op.bytesLess]
 |_::_,[],_,h1,_=>by simp[Op.bytesLess] at h1
 |_::_,_::_,[],_,h2=>by simp[Op.bytesLess] at h2
 |a::x,b::y,c::z,h1,h2=>by
  have ih:=wX x y z;simp only[Op.bytesLess] at h1 h2 ⊢;simp only[UInt8.lt_iff_toNat_lt,beq_iff_eq,cN,aP,decide_eq_true_eq,<-UInt8.toNat_inj] at h1 h2 ⊢;rcases h1 with h1|⟨h1,k1⟩<;>rcases h2 with h2|⟨h2,k2⟩
  ·exact Or.inl (by omega)
  ·exact Or.inl (by omega)
  ·exact Or.inl (by omega)
  ·exact Or.inr ⟨by omega,ih k1 k2⟩
theorem Mu{l:List Atr}(h:kZ l=true):∀(j i:Nat),i<j->j<l.length->Op.bytesLess (aat l i).a.toList (aat l j).a.toList=true
 |0,i,hi,_=>by omega
 |j+1,i,hi,hj=>by
  have hk:nP l (j+1)=true:=by simp only[kZ,aP] at h;exact cJ.mp h.2 (j+1) (eF.mpr hj)
  have hs:Op.bytesLess (aat l j).a.toList (aat l (j+1)).a.toList=true:=by
   simp only[nP,aP,cN] at hk;rcases hk.2 with hk|hk
   ·simp at hk
   ·exact hk
  rcases cG i j with hij|hij
  ·exact wX _ _ _ (Mu h j i hij (by omega)) hs
  ·(have:i=j:=by omega);subst this;exact hs
theorem Ua{l:List Atr}(h:kZ l=true){j:Nat}(hij:i<j)(hj:j<l.length):((aat l j).a.toList==(aat l i).a.toList)=false:=by
 have hr:=Mu h j i hij hj;cases hb:((aat l j).a.toList==(aat l i).a.toList)
 ·rfl
 ·rw[beq_iff_eq] at hb;rw[hb,Po] at hr;exact absurd hr (by simp)
def hit(x:Wnt)(z:Atr):Bool:=z.a.toList==x.a.toList&&gT x.y x.k x.n x.s z.k z.n z.s
theorem Nc{l:List Atr}(h:kZ l=true)(x:Wnt):∀(n k:Nat),k+n=l.length->ans (l.drop k) x=(l.drop k).any (hit x)
 |0,k,hk=>by rw[Nd k (by omega),List.drop_of_length_le (by omega)];rfl
 |n+1,k,hk=>by
  have hlt:k<l.length:=by omega
  have e:l.drop k=aat l k::l.drop (k+1):=by rw[cU hlt];simp[aat,List.getD_eq_getElem?_getD,List.getElem?_eq_getElem hlt]
  cases hn:((aat l k).a.toList==x.a.toList)
  ·rw[Ij k hlt hn,Nc h x n (k+1) (by omega),e,List.any_cons,hit,hn];simp
  ·rw[Ik k hlt hn,e,List.any_cons];(have hz:(l.drop (k+1)).any (hit x)=false:=by rw[List.any_eq_false];intro z hz;obtain⟨i,hi,rfl⟩:=List.mem_iff_getElem.mp hz;simp only[dY] at hi;have ha:=Ua h (i:=k) (j:=k+1+i) (by omega) (by omega);rw[beq_iff_eq] at hn;rw[hn] at ha;(have hg:(l.drop (k+1))[i]=aat l (k+1+i):=by simp[aat,List.getD_eq_getElem?_getD,List.getElem?_eq_getElem (show k+1+i<l.length by omega)]);rw[hg,hit,ha];simp);rw[hz,hit,hn];simp
theorem Xe{l:List Atr}(h:kZ l=true)(f:List Wnt):mat l f=f.all fun x=>l.any (hit x):=by unfold mat;congr 1;funext x;have:=Nc h x l.length 0 (by omega);simpa using this
theorem aAL(wz:World)(a:ByteArray)(y k n:Int)(s:ByteArray)(k' n':Int)(s':ByteArray)(w:World)(hw:gV y k n s=true)(hs:s.size<=64)(hs':s'.size<=33)(h:Gr wz w):Calls prog 100 #[.agg #[.string a,.int .i64 y,.int .i64 k,.int .i64 n,.string s],.agg #[.int .i64 k',.int .i64 n',.string s']] w fun e w'=>e=.returned (.bool (gT y k n s k' n' s'))/\Gr wz w':=(qL a y k n s k' n' s' w hw hs hs').mono fun _ _ ⟨h1,h2⟩=>⟨h1,Gr.call h h2⟩
theorem yR(l:List Atr)(f:List Wnt)(b off cap b' off' cap':Nat)(w:World)(hl:l.length<=maxLen)(hb:b<w.heap.size)(hat:iP w b off l)(hs:∀z∈l,z.s.size<=33)(hl':f.length<=maxLen)(hb':b'<w.heap.size)(hat':iD w b' off' f)(hx:∀x∈f,gV x.y x.k x.n x.s=true/\x.s.size<=64):Calls prog 87 #[.slice (some ⟨b,off,none⟩) l.length cap,.slice (some ⟨b',off',none⟩) f.length cap'] w fun e w'=>e=.returned (.bool (f.all fun x=>l.any (hit x)))/\Gr w w':=by
 unfold maxLen at hl hl';have HA:Hid (iP w b off l):=hat;have HA':Hid (iD w b' off' f):=hat';have HS:Hid (∀z∈l,z.s.size<=33):=hs;have HX:Hid (∀x∈f,gV x.y x.k x.n x.s=true/\x.s.size<=64):=hx;clear hat hat' hs hx;go_enter func87,ntmps87;go_wp2_with fail;go_loopw [5] (fun i wr=>∃k:Nat,k<=f.length/\i=.int .i64 k/\Gr w wr/\Hid ((f.take k).all (fun x=>l.any (hit x))=true)) (fun i _=>f.length-(intOf i).toNat);case atStart=>exact⟨0,zZ,rfl,gZ,rfl⟩
 case round=>
  obtain⟨k,hk,rfl,gr,HP⟩:=hrel;by_cases hlt:k<f.length
  ·go_wp2_with fail;go_loopw [6,7] (fun fb i wr=>∃(q:Nat)(c:Bool),q<=l.length/\i=.int .i64 q/\fb=.bool c/\Gr w wr/\Hid (c=(l.take q).any (hit (wat f k)))) (fun _ i _=>l.length-(intOf i).toNat);case atStart=>exact⟨0,false,zZ,rfl,rfl,gr,rfl⟩
   case round=>
    obtain⟨q,c,hq,rfl,rfl,gq,HQ⟩:=hrel;by_cases hqt:q<l.length
    ·obtain⟨c1,c2,c3,c4,c5⟩:=(HA'.gr gq hb') k hlt;obtain⟨d1,d2,d3,d4⟩:=(HA.gr gq hb) q hqt;(have e1:(0:Int)<=(k:Int):=by omega);(have e2:(k:Int)<(f.length:Int):=by omega);(have e3:(0:Int)<=(q:Int):=by omega);(have e4:(q:Int)<(l.length:Int):=by omega);have HN:Hid ((l.take (q+1)).any (hit (wat f k))=((l.take q).any (hit (wat f k))||hit (wat f k) (aat l q))):=Ig _ l q dA hqt;(have T:Hid (∀w',Gr wr w'->(Gr wr w'/\w'.cell? ⟨b',off'+k*5,none⟩=some (.string (wat f k).a)/\w'.cell? ⟨b',off'+k*5+1,none⟩=some (.int .i64 (wat f k).y)/\w'.cell? ⟨b',off'+k*5+1+1,none⟩=some (.int .i64 (wat f k).k)/\w'.cell? ⟨b',off'+k*5+1+1+1,none⟩=some (.int .i64 (wat f k).n)/\w'.cell? ⟨b',off'+k*5+1+1+1+1,none⟩=some (.string (wat f k).s)/\w'.cell? ⟨b,off+q*4,none⟩=some (.string (aat l q).a)/\w'.cell? ⟨b,off+q*4+1,none⟩=some (.int .i64 (aat l q).k)/\w'.cell? ⟨b,off+q*4+1+1,none⟩=some (.int .i64 (aat l q).n)/\w'.cell? ⟨b,off+q*4+1+1+1,none⟩=some (.string (aat l q).s))):=fun w' hg=>by obtain⟨c1,c2,c3,c4,c5⟩:=(HA'.gr (Gr.call gq hg) hb') k hlt;obtain⟨d1,d2,d3,d4⟩:=(HA.gr (Gr.call gq hg) hb) q hqt;exact⟨hg,c1,c2,c3,c4,c5,d1,d2,d3,d4⟩);cases hn:((aat l q).a.toList==(wat f k).a.toList)
     ·(have HH:Hid (hit (wat f k) (aat l q)=false):=by show _=_;rw[hit,hn];rfl);go_wp2_with fail;go_quiet(fail);cases c
      ·go_wp2;go_roundw;case rel=>exact⟨q+1,false,by omega,by go_num,rfl,gq.drewN _,by show _=_;rw[HN.out,<-HQ.out,HH.out];rfl⟩
       case measure=>simp[intOf];omega
      ·go_wp2;go_roundw;case rel=>exact⟨q+1,true,by omega,by go_num,rfl,gq.drewN _,by show _=_;rw[HN.out,<-HQ.out];rfl⟩
       case measure=>simp[intOf];omega
     ·(have HH:Hid (hit (wat f k) (aat l q)=gT (wat f k).y (wat f k).k (wat f k).n (wat f k).s (aat l q).k (aat l q).n (aat l q).s):=by show _=_;rw[hit,hn];rfl);go_wp2_with fail;go_region_held3(fun w'=>Gr wr w'/\w'.cell? ⟨b',off'+k*5,none⟩=some (.string (wat f k).a)/\w'.cell? ⟨b',off'+k*5+1,none⟩=some (.int .i64 (wat f k).y)/\w'.cell? ⟨b',off'+k*5+1+1,none⟩=some (.int .i64 (wat f k).k)/\w'.cell? ⟨b',off'+k*5+1+1+1,none⟩=some (.int .i64 (wat f k).n)/\w'.cell? ⟨b',off'+k*5+1+1+1+1,none⟩=some (.string (wat f k).s)/\w'.cell? ⟨b,off+q*4,none⟩=some (.string (aat l q).a)/\w'.cell? ⟨b,off+q*4+1,none⟩=some (.int .i64 (aat l q).k)/\w'.cell? ⟨b,off+q*4+1+1,none⟩=some (.int .i64 (aat l q).n)/\w'.cell? ⟨b,off+q*4+1+1+1,none⟩=some (.string (aat l q).s)) (exact T _ (by first|exact gZ|assumption|exact Gr.drew gZ|exact Gr.drew (by assumption))) (first|(go_at_call 100;refine(aAL wr _ _ _ _ _ _ _ _ _ (HX _ (jP hlt)).1 (HX _ (jP hlt)).2 (HS _ (pJ hqt)) (by exact(show Gr wr _/\_ by assumption).1)).mono ?_;rintro e w4 ⟨rfl,g4⟩));have g5:=Gr.call gq g4;clear g4;cases c
      ·go_wp2;go_roundw;case rel=>exact⟨q+1,_,by omega,by go_num,rfl,g5,by show _=_;rw[HN.out,<-HQ.out,HH.out];rfl⟩
       case measure=>simp[intOf];omega
      ·go_wp2;go_roundw;case rel=>exact⟨q+1,true,by omega,by go_num,rfl,g5,by show _=_;rw[HN.out,<-HQ.out];rfl⟩
       case measure=>simp[intOf];omega
    ·(have HE:Hid (c=l.any (hit (wat f k))):=by show _=_;rw[HQ.out,aV (by omega)]);cases c
     ·(have HS:Hid ((f.all fun x=>l.any (hit x))=false):=by show _=_;exact oV _ f k dW hlt HE.symm);go_wp2;go_ret;exact⟨gG (by rw[HS.out]),gq⟩
     ·go_wp2;go_roundw;case rel=>exact⟨k+1,by omega,by go_num,gq,lQ _ f k dW hlt HP.out HE.symm⟩
      case measure=>simp[intOf];omega
  ·go_wp2;go_ret;exact⟨gG (by rw[qW _ f k hlt HP.out]),gr⟩
theorem Tryz.infoBxA:(Tryz.prog.info? 41).map (fun i=>(i.zero,i.size,i.bytes))=some (some (.slice none 0 0),1,24):=by kernel_rfl
def isC(n:Int)(x:Hm):Bool:=decide (x.1.fr<0)&&(x.1.key.1==n)
def vM(e:List Atr)(n:Int)(X:List Hm):Bool:=X.any fun x=>isC n x&&mat e x.1.f
def vL(e:List Atr)(t:Int)(X:List Hm):Bool:=X.any fun x=>(x.1.fr==t)&&mat e x.1.f
def pG(e:List Atr)(b:Nat)(fr number:Int)(X:List Hm)(c:Pc (List Atr)):Pc (List Atr):=if(c.at'=b/\¬(fr<0/\c.num=number))/\vM e c.num X=true then c.hear e else c
def qK(e:List Atr)(b:Nat)(fr:Int)(X:List Hm)(l:Al):Al:=if l.fr=b/\(l.to:Int)≠fr/\vL e l.to X=true then{ l with q:=l.q++[.ev e] } else l
def CsP(f:Pc (List Atr)->Pc (List Atr))(rs:List Rcl)(p:Nat)(cs':List Rcl):Prop:=cs'.length=rs.length/\(∀j,j<p->pcR (kat cs' j)=f (pcR (kat rs j)))/\∀j,p<=j->kat cs' j=kat rs j
section
variable {f:Pc (List Atr)->Pc (List Atr)}{rs cs':List Rcl}{p:Nat}
theorem CsP.skip(h:CsP f rs p cs')(hf:f (pcR (kat rs p))=pcR (kat rs p)):CsP f rs (p+1) cs':=⟨h.1,fun j hj=>by
  by_cases e:j=p
  ·subst e;rw[h.2.2 j lZ,hf]
  ·exact h.2.1 j (by omega),fun j hj=>h.2.2 j (by omega)⟩
theorem CsP.put(h:CsP f rs p cs')(hp:p<rs.length){c:Rcl}(hf:f (pcR (kat rs p))=pcR c):CsP f rs (p+1) (cs'.set p c):=⟨by rw[bR];exact h.1,fun j hj=>by
  rw[xT (by rw[h.1];exact hp)];by_cases e:j=p
  ·subst e;rw[if_pos rfl,hf]
  ·rw[if_neg e];exact h.2.1 j (by omega),fun j hj=>by
  rw[xT (by rw[h.1];exact hp),if_neg (by omega)];exact h.2.2 j (by omega)⟩
theorem CsP.fin(h:CsP f rs rs.length cs'):cs'.map pcR=(rs.map pcR).map f:=by
 apply eP;intro j;rw[aO,aO,aO];by_cases hj:j<rs.length
 ·have h1:=h.2.1 j hj;unfold kat at h1;rw[aI,aI,aJ hj,aJ (by rw[h.1];exact hj)] at h1;rw[aJ hj,aJ (by rw[h.1];exact hj)];simp only[eV] at h1;simp only[dE,h1]
 ·have hj':cs'.length<=j:=by rw[h.1];omega
  rw[eN hj',eN (by omega)];rfl
end
def LsP(f:Al->Al)(Ls:List Rln)(p:Nat)(Ls':List Rln):Prop:=Ls'.length=Ls.length/\(∀j,j<p->(gE Ls' j).av=f (gE Ls j).av)/\∀j,p<=j->gE Ls' j=gE Ls j
section
variable {f:Al->Al}{Ls Ls':List Rln}{p:Nat}
theorem LsP.skip(h:LsP f Ls p Ls')(hf:f (gE Ls p).av=(gE Ls p).av):LsP f Ls (p+1) Ls':=⟨h.1,fun j hj=>by
  by_cases e:j=p
  ·subst e;rw[h.2.2 j lZ,hf]
  ·exact h.2.1 j (by omega),fun j hj=>h.2.2 j (by omega)⟩
theorem LsP.put(h:LsP f Ls p Ls')(hp:p<Ls.length){c:Rln}(hf:f (gE Ls p).av=c.av):LsP f Ls (p+1) (Ls'.set p c):=⟨by rw[bR];exact h.1,fun j hj=>by
  rw[rS (by rw[h.1];exact hp)];by_cases e:j=p
  ·subst e;rw[if_pos rfl,hf]
  ·rw[if_neg e];exact h.2.1 j (by omega),fun j hj=>by
  rw[rS (by rw[h.1];exact hp),if_neg (by omega)];exact h.2.2 j (by omega)⟩
theorem LsP.fin(h:LsP f Ls Ls.length Ls'):Ls'.map Rln.av=(Ls.map Rln.av).map f:=by
 apply eP;intro j;rw[aO,aO,aO];by_cases hj:j<Ls.length
 ·have h1:=h.2.1 j hj;unfold gE at h1;rw[aI,aI,aJ hj,aJ (by rw[h.1];exact hj)] at h1;rw[aJ hj,aJ (by rw[h.1];exact hj)];simp only[eV] at h1;simp only[dE,h1]
 ·have hj':Ls'.length<=j:=by rw[h.1];omega
  rw[eN hj',eN (by omega)];rfl
end
theorem Zi(l:List Atr)(f:List Wnt)(ad ad':Option Addr)(cap cap':Nat)(w:World)(h:EvM w ad l)(h':FiM w ad' f):Calls prog 87 #[.slice ad l.length cap,.slice ad' f.length cap'] w fun e w'=>e=.returned (.bool (mat l f))/\Gr w w':=by obtain⟨hv,hne⟩:=Hg h.ok;obtain⟨hw,hne'⟩:=oU h'.ok;obtain⟨b,off,rfl,hb,hat⟩:=h.at';obtain⟨b',off',rfl,hb',hat'⟩:=h'.at';rw[Xe h.ok f];exact yR l f b off cap b' off' cap' w (by have:=h.len;unfold maxLen;omega) hb hat (fun z hz=>Nat.le_succ_of_le (oH (hv z hz))) (by have:=h'.len;unfold maxLen;omega) hb' hat' (fun x hx=>⟨tK (hw x hx),by have:=nE (tK (hw x hx));omega⟩)
theorem Fn(l:List Atr)(f:List Wnt)(ad ad':Option Addr)(cap cap':Nat)(w:World)(h:EvM w0 ad l)(h':FiM w0 ad' f)(g:Gr w0 w):Calls prog 87 #[.slice ad l.length cap,.slice ad' f.length cap'] w fun e w'=>e=.returned (.bool (mat l f))/\Gr w0 w':=(Zi l f ad ad' cap cap' w (h.gr g) (h'.gr g)).mono fun _ _ h=>⟨h.1,Gr.call g h.2⟩
def Lcl(C:Rc)(aa:Option Addr)(ac:Nat)(X:List Hm)(b:Nat)(W:World):Prop:=W.cell? ⟨C.TB,0,none⟩=some (.slice (some ⟨C.HB,0,none⟩) C.nb C.hcap)/\W.cell? ⟨C.HB,b,none⟩=some (.slice aa X.length ac)
def Lhx(aa:Option Addr)(X:List Hm)(ead:Option Addr)(e:List Atr)(q:Nat)(W:World):Prop:=∃b' off',aa=some ⟨b',off',none⟩/\b'<W.heap.size/\W.cell? ⟨b',off'+q*4,none⟩=some (.int .i64 (hat X q).1.key.1)/\W.cell? ⟨b',off'+q*4+1,none⟩=some (.int .i64 (hat X q).1.key.2)/\W.cell? ⟨b',off'+q*4+1+1,none⟩=some (.slice (hat X q).2.1 (hat X q).1.f.length (hat X q).2.2)/\W.cell? ⟨b',off'+q*4+1+1+1,none⟩=some (.int .i64 (hat X q).1.fr)/\FiM W (hat X q).2.1 (hat X q).1.f/\EvM W ead e
theorem Rt.lcl{R:Nat->Rl}{cv:Value}{cs:List Rcl}(h:Rt A C R w ads Xs lv Ls cv cs){b:Nat}(hb:b<C.nb){W:World}(g:Gr w W):Lcl C (ads b).1 (ads b).2 (Xs b) b W:=⟨(h.gr g).c0,(h.gr g).hbc hb⟩
theorem Rt.lhx{R:Nat->Rl}{cv:Value}{cs:List Rcl}(h:Rt A C R w ads Xs lv Ls cv cs){b:Nat}(hb:b<C.nb){ead:Option Addr}{e:List Atr}(he:EvO A w ead e){q:Nat}(hq:q<(Xs b).length){W:World}(g:Gr w W):Lhx (ads b).1 (Xs b) ead e q W:=by have h':=h.gr g;obtain⟨b',off',e0,hl,d⟩:=(h'.h.row b hb).at'.hold hq;exact⟨b',off',e0,hl,d.1,d.2.1,d.2.2.1,d.2.2.2,(h'.h.fi b hb _ (nY hq)).m,he.m.gr g⟩
theorem Pv(e:List Atr)(n:Int)(X:List Hm){q:Nat}(h:q<X.length):vM e n (X.take (q+1))=(vM e n (X.take q)||(isC n (hat X q)&&mat e (hat X q).1.f)):=by unfold vM;rw[oF _ X q _ h];rfl
theorem Pu(e:List Atr)(t:Int)(X:List Hm){q:Nat}(h:q<X.length):vL e t (X.take (q+1))=(vL e t (X.take q)||(((hat X q).1.fr==t)&&mat e (hat X q).1.f)):=by unfold vL;rw[oF _ X q _ h];rfl
def Vk(A:Nat->Prop)(C:Rc)(R:Nat->Rl)(ads:Nat->Option Addr×Nat)(Xs:Nat->List Hm)(la:Option Addr)(lc:Nat)(Ls:List Rln)(ca:Option Addr)(cc:Nat)(rs:List Rcl)(w:World)(e:List Atr)(b:Nat)(fr number:Int)(X:List Hm)(x:Ending)(w':World):Prop:=x=.returned (.tuple #[])/\∃R' Ls' cs',Rt A C R' w' ads Xs (.slice la Ls.length lc) Ls' (.slice ca rs.length cc) cs'/\Fr R R' w w'/\cs'.map pcR=(rs.map pcR).map (pG e b fr number X)/\Ls'.map Rln.av=(Ls.map Rln.av).map (qK e b fr X)
end Go.Proofs.YtecnfgikbmcgoabGreat
