import Derived.Test.YtecnfgikbmcgoabGreatG13
import Derived.Conc.SmallLaws
set_option maxHeartbeats 8000000
set_option maxRecDepth 100000
namespace Go.Proofs.YtecnfgikbmcgoabGreat
open Go.Proofs.Tryz
open Go.RowKit
variable {k' n' y':Int}{post pre:List Value}{s':ByteArray}{x:Wnt}
theorem xM(n:Int):iI<=wrap64 n/\wrap64 n<=iM:=by unfold wrap64 iI iM;omega
theorem If(s t:ByteArray):(s++t).size=s.size+t.size:=by simp
theorem yX{n:Int}{s:ByteArray}(hlo:iI<=n)(hhi:n<=iM)(hs:s.size<=32):∀v∈kQ n s,iA v.1 v.2.1 v.2.2=true/\iI<=v.2.1/\v.2.1<=iM:=by
 have hz:iI<=0/\0<=iM:=by unfold iI iM;omega
 have num:∀x,iI<=x->x<=iM->iA 1 x gM=true/\iI<=x/\x<=iM:=fun x h1 h2=>⟨by simp[iA,iG],h1,h2⟩;have txt:∀t:ByteArray,t.size<=32->iA 2 0 t=true/\iI<=0/\0<=iM:=fun t ht=>⟨by simp[iA];omega,hz.1,hz.2⟩;have a1:aT.size=1:=rfl;have z1:zT.size=1:=rfl;have o1:oT.size=1:=rfl;have f1:fT.size=1:=rfl;intro v hv;unfold kQ at hv;rcases aE.1 hv with hv|hv
 ·simp only[aN,dR,or_false] at hv;rcases hv with rfl|rfl|rfl|rfl
  ·exact num n hlo hhi
  ·exact num _ (xM _).1 (xM _).2
  ·exact num _ (xM _).1 (xM _).2
  ·exact txt s hs
 ·split at hv
  ·simp only[aN,dR,or_false] at hv;rcases hv with rfl|rfl|rfl|rfl|rfl|rfl|rfl|rfl<;>exact txt _ (by rw[If];omega)
  ·simp at hv
theorem Fc{n:Int}{s:ByteArray}(h1:iI<=n)(h2:n<=iM)(h3:iI<=n')(h4:n'<=iM)(hs:s.size<=32)(hs':s'.size<=32):∀v∈gJ n s n' s',iA v.1 v.2.1 v.2.2=true/\iI<=v.2.1/\v.2.1<=iM:=by
 have hz:iI<=0/\0<=iM/\iI<=1/\1<=iM/\iI<=iM:=by unfold iI iM;omega
 intro v hv;unfold gJ at hv;rcases aE.1 hv with hv|hv
 ·rcases aE.1 hv with hv|hv
  ·rcases aE.1 hv with hv|hv
   ·simp only[aN,dR,or_false] at hv;rcases hv with rfl|rfl|rfl|rfl<;>refine⟨by simp[iA,iG],?_,?_⟩<;>simp only<;>omega
   ·exact yX h1 h2 (by decide) v hv
  ·exact yX h3 h4 hs v hv
 ·exact yX hz.1 hz.2.1 hs' v hv
theorem nE{y k n:Int}{s:ByteArray}(h:gV y k n s=true):s.size<=32:=by
 by_cases h1:y=1
 ·subst h1;simp[sM] at h;have:=tV h.2;have e:s.size=s.data.toList.length:=by simp
  rw[this,cF] at e;omega
 ·exact oH (mX h h1)
theorem yD{y k n:Int}{s:ByteArray}(hw:gV y k n s=true)(hw':gV y' k' n' s'=true)(hlo:iI<=n)(hhi:n<=iM)(hlo':iI<=n')(hhi':n'<=iM):jB y k n s y' k' n' s'=true↔Tp y k n s y' k' n' s':=by
 constructor
 ·exact uA hw hw' hlo hhi
 ·intro h;cases hb:jB y k n s y' k' n' s'
  ·obtain⟨v,hm,h1,h2⟩:=yC hw hw' hlo hhi hb;obtain⟨o1,o2,o3⟩:=Fc hlo hhi hlo' hhi' (nE hw) (nE hw') v hm;rw[h _ _ _ o1 o2 o3 h1] at h2;cases h2
  ·rfl
def Cy(y k n:Int)(s:ByteArray)(y' k' n':Int)(s':ByteArray):Bool:=(gJ n s n' s').all fun v=>!(gT y k n s v.1 v.2.1 v.2.2&&!gT y' k' n' s' v.1 v.2.1 v.2.2)
theorem Qt{y k n:Int}{s:ByteArray}(hw:gV y k n s=true)(hw':gV y' k' n' s'=true)(hlo:iI<=n)(hhi:n<=iM)(hlo':iI<=n')(hhi':n'<=iM):Cy y k n s y' k' n' s'=jB y k n s y' k' n' s':=by
 cases hb:jB y k n s y' k' n' s'
 ·obtain⟨v,hm,h1,h2⟩:=yC hw hw' hlo hhi hb;unfold Cy;rw[fG];exact⟨v,hm,by simp[h1,h2]⟩
 ·have hs:=uA hw hw' hlo hhi hb;unfold Cy;rw[cJ];intro v hm;obtain⟨o1,o2,o3⟩:=Fc hlo hhi hlo' hhi' (nE hw) (nE hw') v hm;cases hl:gT y k n s v.1 v.2.1 v.2.2
  ·simp
  ·simp[hs _ _ _ o1 o2 o3 hl]
theorem tK(h:wOk x=true):gV x.y x.k x.n x.s=true:=by simp[wOk,jK] at h;exact h.2
theorem xU{x':Wnt}(hx:x.Wf)(hx':x'.Wf):qI x x'=true↔wOk x=true/\wOk x'=true/\x.a.toList=x'.a.toList/\Tp x.y x.k x.n x.s x'.y x'.k x'.n x'.s:=by
 unfold qI nX;simp only[aP,beq_iff_eq];constructor
 ·rintro⟨⟨⟨h1,h2⟩,h3⟩,h4⟩;exact⟨h1,h2,h3,(yD (tK h1) (tK h2) hx.n1 hx.n2 hx'.n1 hx'.n2).1 h4⟩
 ·rintro⟨h1,h2,h3,h4⟩;exact⟨⟨⟨h1,h2⟩,h3⟩,(yD (tK h1) (tK h2) hx.n1 hx.n2 hx'.n1 hx'.n2).2 h4⟩
theorem Tq(hx:x.Wf)(h:wOk x=true):qI x x=true:=(xU hx hx).2 ⟨h,h,rfl,fun _ _ _ _ _ _ h=>h⟩
theorem Ox{y z:Wnt}(hx:x.Wf)(hy:y.Wf)(hz:z.Wf)(h1:qI x y=true)(h2:qI y z=true):qI x z=true:=by obtain⟨a1,_,a3,a4⟩:=(xU hx hy).1 h1;obtain⟨_,b2,b3,b4⟩:=(xU hy hz).1 h2;exact(xU hx hz).2 ⟨a1,b2,a3.trans b3,fun k n s o1 o2 o3 hl=>b4 k n s o1 o2 o3 (a4 k n s o1 o2 o3 hl)⟩
theorem yA{f g:List Wnt}:cov f g=true↔gN f=true/\gN g=true/\∀x∈f,∃v∈g,qI v x=true:=by
 unfold cov;simp only[aP,cJ,bT];constructor
 ·rintro⟨⟨h1,h2⟩,h3⟩;exact⟨h1,h2,h3⟩
 ·rintro⟨h1,h2,h3⟩;exact⟨⟨h1,h2⟩,h3⟩
theorem Xt{f g:List Wnt}(hf:gN f=true)(hg:gN g=true)(hwf:∀x∈f,Wnt.Wf x)(h:∀x∈f,x∈g):cov f g=true:=yA.2 ⟨hf,hg,fun x hx=>⟨x,h x hx,Tq (hwf x hx) ((oU hf).1 x hx)⟩⟩
theorem Pm{f g h:List Wnt}(wf:∀x∈f,Wnt.Wf x)(wg:∀x∈g,Wnt.Wf x)(wh:∀x∈h,Wnt.Wf x)(h1:cov f g=true)(h2:cov g h=true):cov f h=true:=by obtain⟨a1,_,a3⟩:=yA.1 h1;obtain⟨_,b2,b3⟩:=yA.1 h2;refine yA.2 ⟨a1,b2,fun x hx=>?_⟩;obtain⟨v,hv,e1⟩:=a3 x hx;obtain⟨u,hu,e2⟩:=b3 v hv;exact⟨u,hu,Ox (wh u hu) (wg v hv) (wf x hx) e2 e1⟩
theorem La(wz:World)(s:ByteArray)(w:World)(hs:s.size<=255)(h:Gr wz w):Calls prog 75 #[.string s] w fun e w'=>e=.returned (.string s)/\Gr wz w':=by go_enter func75,ntmps75;go_wp2_with fail;refine(Tryz.stringslite_Clone s w (by omega)).mono ?_;rintro e w1 ⟨rfl,g1⟩;go_wp2_with fail;go_ret;exact⟨rfl,Gr.call h g1⟩
theorem rF(k n:Int)(s:ByteArray)(w:World)(hs:s.size<=255):Calls prog 76 #[.agg #[.int .i64 k,.int .i64 n,.string s]] w fun e w'=>e=.returned (.agg #[.int .i64 k,.int .i64 n,.string s])/\Gr w w':=by
 go_enter func76,ntmps76;have G1:Gr w ((w.alloc (.cells #[.int .i64 k,.int .i64 n,.string s] 84)).alloc (.cells #[.int .i64 0,.int .i64 0,.string ⟨#[]⟩] 84)):=((Gr.refl w).alloc _).alloc _;have HA:=gK (gZ.alloc (.cells #[.int .i64 0,.int .i64 0,.string ⟨#[]⟩] 84)) (fY w (.cells #[.int .i64 k,.int .i64 n,.string s] 84));have HB:=fY (w.alloc (.cells #[.int .i64 k,.int .i64 n,.string s] 84)) (.cells #[.int .i64 0,.int .i64 0,.string ⟨#[]⟩] 84);rw[show(w.alloc (.cells #[.int .i64 k,.int .i64 n,.string s] 84)).heap.size=w.heap.size+1 by simp] at HB;have HG:=hZ G1;have HHA:=hZ HA;have HHB:=hZ HB;clear G1 HA HB;go_wp2_with fail;refine(La _ s _ hs gZ).mono ?_;rintro e w1 ⟨rfl,g1⟩;have hA:=gK g1 HHA.out;have hB:=gK g1 HHB.out;have G1:=hZ (Gr.call HG.out g1);clear HG HHA HHB g1;have a0:w1.cell? ⟨w.heap.size,0,none⟩=some (.int .i64 k):=by rw[cZ hA];rfl
 have a1:w1.cell? ⟨w.heap.size,1,none⟩=some (.int .i64 n):=by rw[cZ hA];rfl
 have a2:w1.cell? ⟨w.heap.size,2,none⟩=some (.string s):=by rw[cZ hA];rfl
 have b0:w1.cell? ⟨w.heap.size+1,0,none⟩=some (.int .i64 0):=by rw[cZ hB];rfl
 have b1:w1.cell? ⟨w.heap.size+1,1,none⟩=some (.int .i64 0):=by rw[cZ hB];rfl
 have b2:w1.cell? ⟨w.heap.size+1,2,none⟩=some (.string ⟨#[]⟩):=by rw[cZ hB];rfl
 have fa:∀j,w1.frozen? ⟨w.heap.size,j,none⟩=false:=fun j=>frozen_of_row _ _ _ _ _ hA;have fb:∀j,w1.frozen? ⟨w.heap.size+1,j,none⟩=false:=fun j=>frozen_of_row _ _ _ _ _ hB;clear hA hB;go_wp2_with fail;refine bodyPost_ret (v:=.agg #[.int .i64 k,.int .i64 n,.string s]) (by simp[results,results76,go_sem,b0,b1,b2]) rfl ⟨rfl,?_⟩;exact Below.setCell (Below.setCell (Below.setCell (Below.setCell G1.out (p:=⟨w.heap.size,2,none⟩) lZ _) (p:=⟨w.heap.size+1,0,none⟩) (cD _) _) (p:=⟨w.heap.size+1,1,none⟩) (cD _) _) (p:=⟨w.heap.size+1,2,none⟩) (cD _) _
theorem Tryz.infoWantK:(Tryz.prog.info? 89).map (fun i=>(i.zero,i.size,i.bytes))=some (some (.agg #[.string ⟨#[]⟩,.int .i64 0,.int .i64 0,.int .i64 0,.string ⟨#[]⟩]),5,56):=by kernel_rfl
def Rcf(B g n q:Nat)(y:Wnt)(j:Nat)(x:Value)(_w:World):Prop:=
 match j with
 |0=>x=.slice (some ⟨g,0,none⟩) n n
 |1=>x=.int .i64 q
 |2=>x=.pointer (some ⟨B,0,none⟩)
 |3=>x=.string y.a
 |4=>x=.string y.a
 |5=>x=.pointer (some ⟨B,1,none⟩)
 |6=>x=.int .i64 y.y
 |7=>x=.pointer (some ⟨B,2,none⟩)
 |8=>x=.agg #[.int .i64 y.k,.int .i64 y.n,.string y.s]
 |9=>x=.agg #[.int .i64 y.k,.int .i64 y.n,.string y.s]
 |10=>x=.agg #[.string y.a,.int .i64 y.y,.int .i64 y.k,.int .i64 y.n,.string y.s]
 |11=>x=.pointer (some ⟨g,q*5,none⟩)
 |_=>True
theorem Rcf.st{B g n q:Nat}{y:Wnt}(j:Nat)(x:Value)(wa wb:World)(h:Rcf B g n q y j x wa):Rcf B g n q y j x wb:=by unfold Rcf at h ⊢;split<;>first|exact h|trivial
structure Efr(pre post:List Value)(m:Nat)(a:Act):Prop where
 df:a.defers=[]
 ts:∃z:List Value,z.length=m/\a.tmps=(pre++z++post).toArray
theorem Efr.put{m:Nat}(a:Act)(i:Nat)(x:Value)(hi:i<m)(h:Efr pre post m a):Efr pre post m (a.put (some (pre.length+i)) x):=by obtain⟨z,hz,ht⟩:=h.ts;refine⟨h.df,z.set i x,by simpa using hz,?_⟩;simp only[Act.put,ht,List.setIfInBounds_toArray];rw[aU,fL _ _ (by omega),show pre.length+i-pre.length=i by omega,List.set_append_left _ _ (by omega),aU]
theorem Efr.sz{m:Nat}{a:Act}(h:Efr pre post m a):a.tmps.size=pre.length+m+post.length:=by obtain⟨z,hz,ht⟩:=h.ts;rw[ht];simp;omega
theorem Efr.at_{m:Nat}{a:Act}(h:Efr pre post m a){t:Nat}(ht:t<pre.length):a.eval (.tmp t)=pre[t]?.getD undef:=by obtain⟨z,hz,e⟩:=h.ts;rw[evn,e];simp[List.getElem?_append,ht]
theorem wJ(f:List Wnt)(ad:Option Addr)(cap:Nat)(w:World)(h:FiM w ad f):Calls prog 43 #[.slice ad f.length cap] w fun e w'=>∃v,e=.returned v/\w'.ownsRow w.heap.size 89 5 v f.length (iN f)/\Gr w w':=by
 obtain⟨i0,hi,hz0,hz1,hz2⟩:=info_parts Tryz.infoWantK;have HF:=hZ h;have hlen:=h.len;obtain⟨b,off,rfl,hbw,hat⟩:=h.at';have HAT:=hZ hat;clear h hat;go_enter func43,ntmps43;go_wp2_with(at_make;refine wpList_make_full _ rfl _ _ 73 rfl w.heap.size 89 i0 _ 5 underlying73 hi hz0 hz1 _ _ _ _ f.length rfl rfl (by omega) (by omega) ?b2 ?b3 lZ ?_);case b2=>rw[hz2];omega
 case b3=>unfold maxLen;omega
 intro w1 hown1 hgrow1;have G1:Hid (Gr w w1):=Below.grown (Gr.refl w) hgrow1 lZ (fun b hb=>by cases hb);have O1:=hZ hown1;clear hown1 hgrow1;go_wp2_with fail;go_loopw [11] (fun i wr=>∃(q:Nat)(xs:List Value),q<=f.length/\i=.int .i64 q/\Hid (Gr w wr)/\Hid (xs.take (q*5)=iN (f.take q))/\Hid (wr.ownsRow w.heap.size 89 5 (.slice (some ⟨w.heap.size,0,none⟩) f.length f.length) f.length xs)) (fun i _=>f.length-(intOf i).toNat);case atStart=>exact⟨0,_,zZ,rfl,G1,rfl,O1⟩
 case round=>
  obtain⟨q,xs,hq,rfl,G,HX,O⟩:=hrel;clear G1 O1;by_cases hlt:q<f.length
  ·have hxl:xs.length=f.length*5:=O.1;obtain⟨d1,d2,d3,d4,d5⟩:=(HAT.gr G.out hbw) q hlt;have hbw2:b<wr.heap.size:=G.lt hbw;have wfq:=HF.wf _ (jP hlt);have okq:=(oU HF.ok).1 _ (jP hlt);(have hsa:(wat f q).a.size<=255:=by simp only[wOk,jK,lI,aP,decide_eq_true_eq] at okq;omega);(have hss:(wat f q).s.size<=255:=by have:=nE (tK okq);omega);have HSA:=hZ hsa;have HSS:=hZ hss;have WT:=hZ (rI f q hlt);clear hsa hss okq wfq;generalize wat f q=y at *;have HNEW:=fY wr (.cells #[.string y.a,.int .i64 y.y,.int .i64 y.k,.int .i64 y.n,.string y.s] 89);have gal:Gr wr (wr.alloc (.cells #[.string y.a,.int .i64 y.y,.int .i64 y.k,.int .i64 y.n,.string y.s] 89)):=(Gr.refl wr).alloc _;have HHN:=hZ HNEW;have GAL:=hZ gal;clear HNEW gal;go_wp2_with fail;(have hws:w.heap.size<wr.heap.size:=by obtain⟨r0,rc0⟩:=gQ O.out 0 (by omega);exact dC _ _ rc0);refine oO (c:=16) rfl 12 (by rfl) (Rcf wr.heap.size w.heap.size f.length q y) (Efr [.slice (some ⟨b,off,none⟩) f.length cap,undef,.slice none 0 0,.slice (some ⟨w.heap.size,0,none⟩) f.length f.length,.int .i64 q,.pointer (some ⟨wr.heap.size,0,none⟩),.slice (some ⟨b,off,none⟩) f.length cap,.int .i64 f.length,.slice (some ⟨w.heap.size,0,none⟩) f.length f.length,.slice (some ⟨b,off,none⟩) f.length cap,.int .i64 f.length,.int .i64 q,.bool true,.int .i64 q,.pointer (some ⟨b,off+q*5,none⟩),.agg #[.string y.a,.int .i64 y.y,.int .i64 y.k,.int .i64 y.n,.string y.s]] [u28,undef] 12) (fun w'=>Gr (wr.alloc (.cells #[.string y.a,.int .i64 y.y,.int .i64 y.k,.int .i64 y.n,.string y.s] 89)) w') (fun _ wa wb=>Gr wa wb) (fun a i x hi h=>Efr.put a i x hi h) (fun a h=>by have:=h.sz;simp at this;omega) (fun i wa wb h g=>Gr.call h g) (fun i j x wa wb _ h g=>Rcf.st j x wa wb h) ?front ?last ?e0 gZ.drew;case e0=>exact⟨rfl,[u16,u17,u18,u19,u20,u21,u22,u23,u24,u25,u26,u27],rfl,rfl⟩
   case front=>
    intro i o a' w2 ho hi2 hE hW hd K hK;have hA:=gK hW HHN.out;(have c0:w2.cell? ⟨wr.heap.size,0,none⟩=some (.string y.a):=by rw[cZ hA];rfl);(have c1:w2.cell? ⟨wr.heap.size,1,none⟩=some (.int .i64 y.y):=by rw[cZ hA];rfl);(have c2:w2.cell? ⟨wr.heap.size,2,none⟩=some (.int .i64 y.k):=by rw[cZ hA];rfl);(have c3:w2.cell? ⟨wr.heap.size,3,none⟩=some (.int .i64 y.n):=by rw[cZ hA];rfl);(have c4:w2.cell? ⟨wr.heap.size,4,none⟩=some (.string y.s):=by rw[cZ hA];rfl);have t3:a'.tmps[3]?.getD undef=.slice (some ⟨w.heap.size,0,none⟩) f.length f.length:=(evn a' 3).symm.trans (hE.at_ (by simp));have t4:a'.tmps[4]?.getD undef=.int .i64 q:=(evn a' 4).symm.trans (hE.at_ (by simp));have t5:a'.tmps[5]?.getD undef=.pointer (some ⟨wr.heap.size,0,none⟩):=(evn a' 5).symm.trans (hE.at_ (by simp));clear hE hA
    match i,ho,hi2,hd,hK with
    |0,ho,_,hd,hK=>obtain rfl:=oZ ho;unfold Oper.wp;go_simp;exact hK _ _ gZ rfl
    |1,ho,_,hd,hK=>obtain rfl:=oZ ho;unfold Oper.wp;go_simp;exact hK _ _ gZ rfl
    |2,ho,_,hd,hK=>obtain rfl:=oZ ho;unfold Oper.wp;go_simp;exact hK _ _ gZ rfl
    |3,ho,_,hd,hK=>obtain rfl:=oZ ho;have e0:a'.eval (.tmp 18)=.pointer (some ⟨wr.heap.size,0,none⟩):=hd ⟨2,.data⟩ (by simp) rfl;rw[evn] at e0;unfold Oper.wp;go_simp;exact hK _ _ gZ rfl
    |4,ho,_,hd,hK=>obtain rfl:=oZ ho;have e0:a'.eval (.tmp 19)=.string y.a:=hd ⟨3,.data⟩ (by simp) rfl;rw[evn] at e0;unfold Oper.wp;go_simp;refine(La w2 y.a w2 HSA.out gZ).mono ?_;rintro e w3 ⟨rfl,g3⟩;go_simp;exact hK _ _ g3 rfl
    |5,ho,_,hd,hK=>obtain rfl:=oZ ho;unfold Oper.wp;go_simp;exact hK _ _ gZ rfl
    |6,ho,_,hd,hK=>obtain rfl:=oZ ho;have e0:a'.eval (.tmp 21)=.pointer (some ⟨wr.heap.size,1,none⟩):=hd ⟨5,.data⟩ (by simp) rfl;rw[evn] at e0;unfold Oper.wp;go_simp;exact hK _ _ gZ rfl
    |7,ho,_,hd,hK=>obtain rfl:=oZ ho;unfold Oper.wp;go_simp;exact hK _ _ gZ rfl
    |8,ho,_,hd,hK=>obtain rfl:=oZ ho;have e0:a'.eval (.tmp 23)=.pointer (some ⟨wr.heap.size,2,none⟩):=hd ⟨7,.data⟩ (by simp) rfl;rw[evn] at e0;unfold Oper.wp;go_simp;exact hK _ _ gZ rfl
    |9,ho,_,hd,hK=>obtain rfl:=oZ ho;have e0:a'.eval (.tmp 24)=.agg #[.int .i64 y.k,.int .i64 y.n,.string y.s]:=hd ⟨8,.data⟩ (by simp) rfl;rw[evn] at e0;unfold Oper.wp;go_simp;refine(rF y.k y.n y.s w2 HSS.out).mono ?_;rintro e w3 ⟨rfl,g3⟩;go_simp;exact hK _ _ g3 rfl
    |10,ho,_,hd,hK=>obtain rfl:=oZ ho;have e0:a'.eval (.tmp 20)=.string y.a:=hd ⟨4,.data⟩ (by simp) rfl;have e1:a'.eval (.tmp 22)=.int .i64 y.y:=hd ⟨6,.data⟩ (by simp) rfl;have e2:a'.eval (.tmp 25)=.agg #[.int .i64 y.k,.int .i64 y.n,.string y.s]:=hd ⟨9,.data⟩ (by simp) rfl;rw[evn] at e0 e1 e2;unfold Oper.wp;go_simp;exact hK _ _ gZ rfl
    |11,ho,_,hd,hK=>obtain rfl:=oZ ho;have e0:a'.eval (.tmp 16)=.slice (some ⟨w.heap.size,0,none⟩) f.length f.length:=hd ⟨0,.data⟩ (by simp) rfl;have e1:a'.eval (.tmp 17)=.int .i64 q:=hd ⟨1,.data⟩ (by simp) rfl;rw[evn] at e0 e1;unfold Oper.wp;go_simp;exact hK _ _ gZ rfl
    |k+12,_,hi2,_,_=>exact absurd hi2 (by omega)
   case last=>
    intro o a' w2 ho hE hW hd K hK;obtain rfl:=oZ ho;have e0:a'.eval (.tmp 27)=.pointer (some ⟨w.heap.size,q*5,none⟩):=hd 11 (by omega);have e1:a'.eval (.tmp 26)=.agg #[.string y.a,.int .i64 y.y,.int .i64 y.k,.int .i64 y.n,.string y.s]:=hd 10 (by omega);rw[evn] at e0 e1;have g5:=Gr.call GAL.out hW;have O5:=hZ (gO O.out g5);have G5:=hZ (Gr.call G.out g5);obtain⟨r0,rc0⟩:=gQ O5.out (q*5) (by omega);have rf0:=aK O5.out (q*5);obtain⟨r1,rc1⟩:=gQ O5.out (q*5+1) (by omega);have rf1:=aK O5.out (q*5+1);obtain⟨r2,rc2⟩:=gQ O5.out (q*5+1+1) (by omega);have rf2:=aK O5.out (q*5+1+1);obtain⟨r3,rc3⟩:=gQ O5.out (q*5+1+1+1) (by omega);have rf3:=aK O5.out (q*5+1+1+1);obtain⟨r4,rc4⟩:=gQ O5.out (q*5+1+1+1+1) (by omega);have rf4:=aK O5.out (q*5+1+1+1+1);have O6:=hZ (vU O5.out (q*5) (.string y.a) (.int .i64 y.y) (.int .i64 y.k) (.int .i64 y.n) (.string y.s));have G6:=hZ (xV lZ G5.out (.string y.a) (.int .i64 y.y) (.int .i64 y.k) (.int .i64 y.n) (.string y.s) (k:=q*5));(have X6:Hid ((set5 xs (q*5) (.string y.a) (.int .i64 y.y) (.int .i64 y.k) (.int .i64 y.n) (.string y.s)).take ((q+1)*5)=iN (f.take (q+1))):=by show _=_;rw[show(q+1)*5=q*5+5 by omega,Qu _ _ _ _ _ _ _ (by omega),HX.out,WT.out]);obtain⟨z,hz,ht⟩:=hE.ts;have hdf:=hE.df;clear O5 G5 O G HX g5 hd hE hW
    match z,hz with
    |[z0,z1,z2,z3,z4,z5,z6,z7,z8,z9,z10,z11],_=>
    obtain⟨tm,df⟩:=a';simp only at ht hdf;subst ht;subst hdf;obtain rfl:z11=.pointer (some ⟨w.heap.size,q*5,none⟩):=e0;obtain rfl:z10=.agg #[.string y.a,.int .i64 y.y,.int .i64 y.k,.int .i64 y.n,.string y.s]:=e1;unfold Oper.wp;go_simp;refine hK _ _ ?_;go_wp2_with fail;exact⟨⟨q+1,_,hlt,by simp,G6,X6,O6⟩,gD _ _ hlt⟩
  ·(have hql:q=f.length:=by omega);have OF:Hid (wr.ownsRow w.heap.size 89 5 (.slice (some ⟨w.heap.size,0,none⟩) f.length f.length) f.length (iN f)):=by
    (have e:xs=iN f:=by have h1:=HX.out;have h2:=O.1;rw[hql,aV (by omega),aV lZ] at h1;exact h1);rw[<-e];exact O.out
   clear O HX;go_wp2_with fail;go_ret;exact⟨_,rfl,OF.out,G.out⟩
open Go.Maps (Keyed)
open Go.ChangeMaps (setBlock)
theorem Tryz.infoEvC:(Tryz.prog.info? 78).map (fun i=>(i.zero,i.size,i.bytes))=some (some (.slice none 0 0),1,24):=by kernel_rfl
theorem Xb(w:World):(Instr.makeChan 126 (.int .i64 16)).run prog w=.ok (.chan (some w.heap.size)) (w.alloc (.chan 16 #[] false 0 0 false)):=by obtain⟨i,hi,_,_,hb⟩:=info_parts Tryz.infoEvC;simpa using Go.Conc.run_makeChan (P:=prog) (w:=w) underlying126 hi .i64 16 (by omega) (by rw[hb];omega)
theorem uS(w:World):Calls prog 68 #[] w fun e w'=>e=.returned (.chan (some w.heap.size))/\w'=w.alloc (.chan 16 #[] false 0 0 false):=by have hmk:=Xb;go_enter func68,ntmps68;go_wp2_with fail;go_ret;exact⟨rfl,rfl⟩
theorem Az(b:Nat)(w:World):Calls prog 38 #[.int .i64 b] w fun e w'=>e=.returned (.pointer (some ⟨w.heap.size+1,0,none⟩))/\w'=(w.alloc (.chan 16 #[] false 0 0 false)).alloc (.cells #[.int .i64 b,.chan (some w.heap.size),.int .i64 0] 128):=by go_enter func38,ntmps38;go_wp2_with fail;refine(uS w).mono ?_;rintro e w1 ⟨rfl,rfl⟩;go_wp2_with fail;go_ret;exact⟨by simp,rfl⟩
theorem mN(T:Tc)(r:Nat->Rl)(w:World)(b:Nat)(h:Tb T r w)(hb:b<T.nb):Calls prog 37 #[.pointer (some ⟨T.TB,0,none⟩),.int .i64 b] w fun e w'=>e=.returned (.bool true)/\Gr w w':=by
 have c0:=h.c0;have hnb:=h.nb8;have h1:(0:Int)<=(b:Int):=by omega
 have h2:(b:Int)<(T.nb:Int):=by omega
 go_enter func37,ntmps37;go_wp2_with fail;go_ret;exact⟨rfl,gZ⟩
theorem Tm.attach{T:Tc}{r:Nat->Rl}{w:World}{Xs:Nat->List Hm}{qs:Nat->Nat->List Mm}{cls:List Cl}(h:Tm T r w Xs qs cls)(c:Int)(b:Nat)(hc:I64 c)(hb:b<T.nb)(_hn:∀x∈cls,x.num≠c){w1:World}(g:Gr w w1){w2:World}(hw2:w2=(w1.alloc (.chan 16 #[] false 0 0 false)).alloc (.cells #[.int .i64 b,.chan (some w1.heap.size),.int .i64 0] 128)){w3:World}(g3:Gr w2 w3){es:Array MapEntry}{clock:Nat}(hm:Mp prog 3 (setBlock w3 T.CB (.map es clock)) T.CB (cls.map cv++[(.int .i64 c,.pointer (some ⟨w1.heap.size+1,0,none⟩))]) es clock):∃r',Tm T r' (setBlock w3 T.CB (.map es clock)) Xs qs (cls++[⟨c,b,w1.heap.size+1,w1.heap.size,0,[]⟩])/\Fr r r' w (setBlock w3 T.CB (.map es clock)):=by
 have g2:Gr w1 w2:=by rw[hw2];exact((Gr.refl w1).alloc _).alloc _
 have gg:=Gr.call (Gr.call g g2) g3;have s2:w2.heap.size=w1.heap.size+2:=by rw[hw2];simp
 have hcm:r T.CB=.cm:=h.k.cm;have hlt:T.CB<w.heap.size:=h.b.lt (by rw[hcm];exact fun e=>by cases e);have hs:w.heap.size<=(setBlock w3 T.CB (.map es clock)).heap.size:=by simp only[setBlock];simpa using gg.size
 have hkeep:∀k,k<w.heap.size->r k≠.cm->(setBlock w3 T.CB (.map es clock)).heap[k]?=w.heap[k]?:=fun k hk h1=>(gR (fun e=>h1 (by rw[e];exact hcm))).trans (gg.block k hk);have hsz:=g.size;have hch:(setBlock w3 T.CB (.map es clock)).heap[w1.heap.size]?=some (.chan 16 #[] false 0 0 false):=by rw[gR (by omega),g3.block _ (by omega),hw2,gF _ _ (by simp)];exact fY w1 _
 have hcl:(setBlock w3 T.CB (.map es clock)).heap[w1.heap.size+1]?=some (.cells #[.int .i64 b,.chan (some w1.heap.size),.int .i64 0] 128 (0,0)):=by rw[gR (by omega),g3.block _ (by omega),hw2];have:=fY (w1.alloc (.chan 16 #[] false 0 0 false)) (.cells #[.int .i64 b,.chan (some w1.heap.size),.int .i64 0] 128);rw[show(w1.alloc (.chan 16 #[] false 0 0 false)).heap.size=w1.heap.size+1 by simp] at this;exact this
 have hs3:(setBlock w3 T.CB (.map es clock)).heap.size=w3.heap.size:=by simp[setBlock]
 have hsame:∀k,k<w.heap.size->(if k=w1.heap.size then Rl.ch c else if k=w1.heap.size+1 then .cl c else r k)=r k:=fun k hk=>by rw[if_neg (by omega),if_neg (by omega)]
 have htop:∀k,(setBlock w3 T.CB (.map es clock)).heap.size<=k->(if k=w1.heap.size then Rl.ch c else if k=w1.heap.size+1 then .cl c else r k)=.no:=fun k hk=>by have:=g3.size;rw[if_neg (by omega),if_neg (by omega)];exact h.b.top k (by omega)
 refine⟨fun k=>if k=w1.heap.size then .ch c else if k=w1.heap.size+1 then .cl c else r k,⟨h.b.keep hs (fun k hk hr=>hkeep k hk ?_) hsame htop,h.h.keep hs (fun k hk hr=>hkeep k hk ?_) hsame,h.l.keep hs (fun k hk hr=>hkeep k hk ?_) hsame,⟨(hsame _ hlt).trans hcm,⟨es,clock,by rw[aS];exact hm⟩,fun x hx=>?_,fun x hx=>?_,fun x hx=>?_,fun x hx i y hy=>?_⟩⟩,⟨gg.os,gg.tape,gg.output,hs,fun k hk hr=>hkeep k hk ?_,hsame⟩⟩
 ·rcases hr with hr|hr<;>(rw[hr];exact fun e=>by cases e)
 ·rcases hr with hr|⟨_,hr⟩<;>(rw[hr];exact fun e=>by cases e)
 ·rcases hr with hr|hr|⟨_,_,hr⟩<;>(rw[hr];exact fun e=>by cases e)
 ·rcases aE.1 hx with hx|hx
  ·exact h.k.num x hx
  ·rw[aM.1 hx];exact⟨hc,hb⟩
 ·rcases aE.1 hx with hx|hx
  ·obtain⟨k1,k2⟩:=h.k.blk x hx;exact⟨(hsame _ (fZ k2)).trans k1,(hkeep _ (fZ k2) (by rw[k1];exact fun e=>by cases e)).trans k2⟩
  ·rw[aM.1 hx];exact⟨by show(if w1.heap.size+1=w1.heap.size then _ else _)=_;rw[if_neg (by omega),if_pos rfl],hcl⟩
 ·rcases aE.1 hx with hx|hx
  ·obtain⟨k1,s,q,tm,k2⟩:=h.k.chn x hx;exact⟨(hsame _ (fZ k2)).trans k1,s,q,tm,(hkeep _ (fZ k2) (by rw[k1];exact fun e=>by cases e)).trans k2⟩
  ·rw[aM.1 hx];exact⟨if_pos rfl,0,0,false,hch⟩
 ·rcases aE.1 hx with hx|hx
  ·exact(h.k.box x hx i y hy).keep hs (fun k hk hr=>hkeep k hk (by rw[hr];exact fun e=>by cases e)) hsame
  ·rw[aM.1 hx] at hy;cases hy
 ·rcases hr with hr|hr<;>(rw[hr];exact fun e=>by cases e)
theorem Tryz.zeroC(w:World):(zeroValue 118).run prog w=.ok (.pointer none) w:=Tryz.zeroValue118 w
theorem Lc(T:Tc)(r:Nat->Rl)(w:World)(cls:List Cl)(s:Ts)(c:Int)(b:Nat)(hT:Tw T r w cls s)(hc:I64 c)(hb:b<T.nb)(hn:∀x∈cls,x.num≠c)(hl:cls.length<16):Calls prog 16 #[.pointer (some ⟨T.TB,0,none⟩),.int .i64 c,.int .i64 b] w fun e w'=>e=.returned (.int .i64 0)/\∃r' k h,Tw T r' w' (cls++[⟨c,b,k,h,0,[]⟩]) s/\Fr r r' w w':=by
 obtain⟨Xs,qs,hT,hV⟩:=hT;obtain⟨es,clock,hmp⟩:=hT.k.mp;obtain⟨lk,hlk⟩:=Zx c hc;have hno:∀v,(Value.int .i64 c,v)∉cls.map cv:=by intro v hv';obtain⟨x,hx,e⟩:=aC.1 hv';injection e with e1 e2;injection e1 with e1 e3;exact hn x hx e3
 have HB:=hZ (mN T r w b hT.b hb);have HT:=hZ hT;have HV:=hZ hV;have HMP:=hZ hmp;have HN:=hZ hn;have HNO:=hZ hno;have HC:=hZ hc;clear hT hV hmp hn hno hc;go_enter func16,ntmps16;go_wp2_with fail;refine HB.mono ?_;rintro e w1 ⟨rfl,g1⟩;have hlu:=Mp.look_no Tryz.keyedI underlying106 (HMP.kept (g1.block _ HMP.lt)) hlk HNO.out Tryz.zeroC true;have T1:=HT.gr g1;have c1:=T1.b.c1;have hblk:=(HMP.kept (g1.block _ HMP.lt)).blk;have hsz:es.size=cls.length:=by have:=congrArg List.length HMP.ent;simpa using this
 have G1:=hZ g1;have hlen:(Builtin.len_ #[106] 3 #[.map (some T.CB)]).run prog w1=.ok (.int .i64 (cls.length:Nat)) w1:=by simp[Builtin.len_,run_underlying underlying106,getObj,Sem.run,hblk,hsz,goInt]
 have hTB:=T1.tlt;clear HB T1 g1;obtain⟨hup,hM'⟩:=Mp.put_new (v:=.pointer (some ⟨w1.heap.size+1,0,none⟩)) Tryz.keyedI underlying106 (HMP.kept (w':=((w1.alloc (.chan 16 #[] false 0 0 false)).alloc (.cells #[.int .i64 b,.chan (some w1.heap.size),.int .i64 0] 128)).drew) (((G1.alloc _).alloc _).drew.block _ HMP.lt)) hlk HNO.out;have FIN:=Tm.attach HT.out c b HC.out hb HN.out G1.out rfl (gZ.drew) hM';have HF:=hZ FIN;clear FIN hM';go_wp2_with fail;go_region_with(go_at_call 38;refine(Az b _).mono ?_;rintro e w2 ⟨rfl,rfl⟩);all_goals
  go_wp2_with fail;go_ret;obtain⟨r',z1,z2⟩:=HF.out;exact⟨rfl,r',_,_,⟨Xs,qs,z1,HV.out⟩,z2⟩
theorem De(l:List Wnt)(b off cap:Nat)(w:World)(hl:l.length<=maxLen)(hb:b<w.heap.size)(hat:iD w b off l)(hwf:∀x∈l,Wnt.Wf x):Calls prog 44 #[.slice (some ⟨b,off,none⟩) l.length cap] w fun e w'=>e=.returned (.int .i64 (chk l))/\Gr w w':=by
 unfold maxLen at hl;have HC:Hid (iD w b off l):=hat;have HF:Hid (∀x∈l,Wnt.Wf x):=hwf;clear hat hwf;go_enter func44,ntmps44;go_wp2
 ·go_ret;exact⟨jE (vI ‹_›).symm,gZ⟩
 ·go_loopw [3] (fun i wr=>∃k:Nat,k<=l.length/\i=.int .i64 k/\Gr w wr/\Hid ((l.take k).all wOk=true)) (fun i _=>l.length-(intOf i).toNat);case atStart=>exact⟨0,zZ,rfl,gZ,rfl⟩
  case round=>
   obtain⟨k,hk,rfl,g,HA⟩:=hrel;by_cases hlt:k<l.length
   ·obtain⟨c1,c2,c3,c4,c5⟩:=(HC.gr g hb) k hlt;go_wp2_with fail;refine(kF _ _ _ _ _ _ (HF _ (jP hlt)).a).mono ?_;rintro e w1 ⟨rfl,hb1⟩;have g1:Gr w w1:=Gr.call g hb1;clear c1 c2 c3 c4 c5;go_wp2
    ·go_ret;refine⟨jE (Hu k hlt ?_).symm,g1⟩;simpa[wOk] using ‹(!jK _ _ _ _ _)=true›
    ·go_roundw;case rel=>
      refine⟨k+1,by omega,by go_num,g1,lQ wOk l k dW hlt HA.out ?_⟩;simpa[wOk,wat] using ‹(!jK _ _ _ _ _)=false›
     case measure=>simp[intOf];omega
   ·go_wp2;go_ret;exact⟨jE (My k hlt (by omega) (by omega) HA.out).symm,g⟩
 ·go_ret;exact⟨jE (vI (Or.inl ‹_›)).symm,gZ⟩
theorem Ak(l:List Atr)(b off cap:Nat)(w:World)(hl:l.length<=maxLen)(hb:b<w.heap.size)(hat:iP w b off l)(hwf:∀x∈l,Atr.Wf x):Calls prog 50 #[.slice (some ⟨b,off,none⟩) l.length cap] w fun e w'=>e=.returned (.int .i64 (oB l))/\Gr w w':=by
 unfold maxLen at hl;have HC:Hid (iP w b off l):=hat;have HF:Hid (∀x∈l,Atr.Wf x):=hwf;clear hat hwf;go_enter func50,ntmps50;go_wp2
 ·go_ret;exact⟨jE (tB ‹_›).symm,gZ⟩
 ·go_loopw [15] (fun i wr=>∃k:Nat,k<=l.length/\i=.int .i64 k/\Gr w wr/\Hid ((List.range k).all (nP l)=true)) (fun i _=>l.length-(intOf i).toNat);case atStart=>exact⟨0,zZ,rfl,gZ,rfl⟩
  case round=>
   obtain⟨k,hk,rfl,g,HA⟩:=hrel;by_cases hlt:k<l.length
   ·obtain⟨c1,c2,c3,c4⟩:=(HC.gr g hb) k hlt;have hb':=g.lt hb;cases hn:lI (aat l k).a
    ·go_wp2_with(go_at_call 81;refine(nZ _ _ (HF _ (pJ hlt)).a).mono ?_;rw[hn];rintro e w' ⟨rfl,rfl⟩);go_ret;exact⟨jE (oE k hlt (by simp[nP,hn])).symm,g.alloc _⟩
    ·cases hv:iA (aat l k).k (aat l k).n (aat l k).s
     ·go_wp2_with(first|(go_at_call 81;refine(nZ _ _ (HF _ (pJ hlt)).a).mono ?_;rw[hn];rintro e w' ⟨rfl,rfl⟩)|(go_at_call 82;refine(pQ _ _ _ _).mono ?_;rw[hv];rintro e w1 ⟨rfl,hb1⟩));go_ret;exact⟨jE (oE k hlt (by simp[nP,hv])).symm,Gr.call (g.alloc _) hb1⟩
     ·go_wp2_with(first|(go_at_call 81;refine(nZ _ _ (HF _ (pJ hlt)).a).mono ?_;rw[hn];rintro e w' ⟨rfl,rfl⟩)|(go_at_call 82;refine(pQ _ _ _ _).mono ?_;rw[hv];rintro e w1 ⟨rfl,hb1⟩;obtain⟨hc1,hf1⟩:=gP hb1));have gz:Gr w w1:=Gr.call (g.alloc _) hb1;have hbz:=gz.lt hb;(have q1:w1.cell? ⟨wr.heap.size,0,none⟩=some (.string (aat l k).a):=by rw[hc1 _ _ (by simp)];simp[go_sem]);clear hc1 hf1 c1 c2 c3 c4;by_cases hk0:k=0
      ·(have hd:decide (0<(k:Int))=false:=by simp;omega);have HO:Hid (nP l k=true):=by show _=_;simp only[nP,hn,hv,show(k==0)=true by simpa using hk0,Bool.true_or,Bool.and_self]
       go_quiet(fail);go_wp2;go_roundw;case rel=>exact⟨k+1,by omega,by subst hk0;rfl,gz.drewN _,qR k HA.out HO.out⟩
       case measure=>simp[intOf];omega
      ·obtain⟨p1,p2,p3,p4⟩:=(HC.gr gz hb) (k-1) (by omega);(have hi0:0<k:=by omega);(have hd:decide (0<k)=true:=by simpa using hi0);clear hk0;(have hw1:IntKind.i64.wrap ((k:Int)-1)=((k-1:Nat):Int):=by rw[IntWalk.i64_in _ (by omega)];omega);(have hi1:(0:Int)<(k:Int):=by omega);(have hi4:((k-1:Nat):Int)<(l.length:Int):=by omega);(have hi5:k-1<l.length:=by omega);(have hi2:(0:Int)<=(k:Int)-1:=by omega);(have hi3:(k:Int)-1<(l.length:Int):=by omega);(have HO:Hid (nP l k=Op.bytesLess (aat l (k-1)).a.toList (aat l k).a.toList):=by show _=_;simp[nP,hn,hv,show(k==0)=false by simp;omega]);go_quiet(fail);go_wp2
       ·go_ret;refine⟨jE (oE k hlt ?_).symm,gz.drewN _⟩;rw[HO.out];simpa using ‹(!Op.bytesLess _ _)=true›
       ·go_roundw;case rel=>
         refine⟨k+1,by omega,by go_num,gz.drewN _,qR k HA.out ?_⟩;rw[HO.out];simpa using ‹(!Op.bytesLess _ _)=false›
        case measure=>simp[intOf];omega
   ·go_wp2;go_ret;exact⟨jE (Hx k hlt hk (by omega) (by omega) HA.out).symm,g⟩
 ·go_ret;exact⟨jE (tB (Or.inl ‹_›)).symm,gZ⟩
theorem Ii(l:List Atr)(x:Wnt)(b off cap:Nat)(m:Int)(w:World)(hl:l.length<=maxLen)(hb:b<w.heap.size)(hat:iP w b off l)(hv:∀z∈l,iA z.k z.n z.s=true)(hx:wOk x=true)(hM:Ml m w):Calls prog 131 #[.slice (some ⟨b,off,none⟩) l.length cap,.agg #[.string x.a,.int .i64 x.y,.int .i64 x.k,.int .i64 x.n,.string x.s]] w
   fun e w'=>e=.returned (.bool (ans l x))/\Gr w w':=by
 unfold maxLen at hl;have HC:Hid (iP w b off l):=hat;have HV:Hid (∀z∈l,iA z.k z.n z.s=true):=hv;have HX:Hid (gV x.y x.k x.n x.s=true):=by show _=_;simp[wOk,jK] at hx;exact hx.2
 clear hat hv hx;go_enter func131,ntmps131;go_wp2;go_loopw [9] (fun i wr=>∃k:Nat,k<=l.length/\i=.int .i64 k/\Gr (w.alloc (.cells #[.string x.a,.int .i64 x.y,.int .i64 x.k,.int .i64 x.n,.string x.s] 89)) wr/\Hid (ans (l.drop k) x=ans l x)) (fun i _=>l.length-(intOf i).toNat);case atStart=>exact⟨0,zZ,rfl,gZ,rfl⟩
 case round=>
  obtain⟨k,hk,rfl,g,HA⟩:=hrel;have gw:Gr w wr:=Gr.call ((Gr.refl w).alloc _) g;by_cases hlt:k<l.length
  ·obtain⟨c1,c2,c3,c4⟩:=(HC.gr gw hb) k hlt;have hb':=gw.lt hb;have hzr:w.heap.size<wr.heap.size:=g.lt (by simp);(have x1:wr.cell? ⟨w.heap.size,0,none⟩=some (.string x.a):=by rw[(gP g).1 _ _ (by simp)];simp[go_sem]);(have x2:wr.cell? ⟨w.heap.size,1,none⟩=some (.int .i64 x.y):=by rw[(gP g).1 _ _ (by simp)];simp[go_sem]);(have x3:wr.cell? ⟨w.heap.size,1+1,none⟩=some (.int .i64 x.k):=by rw[(gP g).1 _ _ (by simp)];simp[go_sem]);(have x4:wr.cell? ⟨w.heap.size,1+1+1,none⟩=some (.int .i64 x.n):=by rw[(gP g).1 _ _ (by simp)];simp[go_sem]);(have x5:wr.cell? ⟨w.heap.size,1+1+1+1,none⟩=some (.string x.s):=by rw[(gP g).1 _ _ (by simp)];simp[go_sem]);cases hn:((aat l k).a.toList==x.a.toList)
   ·have HN:=Ij (x:=x) k hlt hn;(have HN':Hid (ans (l.drop (k+1)) x=ans l x):=by show _=_;rw[<-HN];exact HA.out);clear HN;go_wp2_with fail;clear c1 c2 c3 c4 x1 x2 x3 x4 x5;go_roundw;case rel=>exact⟨k+1,by omega,by go_num,g.alloc _,HN'⟩
    case measure=>simp[intOf];omega
   ·(have HN:Hid (ans l x=gT x.y x.k x.n x.s (aat l k).k (aat l k).n (aat l k).s):=by show _=_;rw[<-HA.out];exact Ik k hlt hn);go_wp2_with fail;refine(mU _ _ _ _ _ _ _ _ m _ HX.out (HV _ (pJ hlt)) ((gw.ml hM).alloc _)).mono ?_;rintro e w1 ⟨rfl,hb1⟩;go_wp2_with fail;go_ret;exact⟨gG (by rw[HN.out]),Gr.call (gw.alloc _) hb1⟩
  ·go_wp2;go_ret;refine⟨gG ?_,gw⟩;rw[<-HA.out,Nd k hlt]
theorem Gf(f:List Wnt)(l:List Atr)(b' off' cap' b off cap:Nat)(m:Int)(w:World)(hf:f.length<=maxLen)(hl:l.length<=maxLen)(hb':b'<w.heap.size)(hat':iD w b' off' f)(hb:b<w.heap.size)(hat:iP w b off l)(hv:∀z∈l,iA z.k z.n z.s=true)(hx:∀x∈f,wOk x=true)(hM:Ml m w):Calls prog 108 #[.slice (some ⟨b',off',none⟩) f.length cap',.slice (some ⟨b,off,none⟩) l.length cap] w
   fun e w'=>e=.returned (.bool (mat l f))/\Gr w w':=by
 have HL:Hid (l.length<=maxLen):=hl;unfold maxLen at hl hf;have HC:Hid (iP w b off l):=hat;have HC':Hid (iD w b' off' f):=hat';have HV:Hid (∀z∈l,iA z.k z.n z.s=true):=hv;have HX:Hid (∀x∈f,wOk x=true):=hx;clear hat hv hx hat';go_enter func108,ntmps108;go_wp2;go_loopw [9] (fun i wr=>∃k:Nat,k<=f.length/\i=.int .i64 k/\Gr w wr/\Hid ((f.take k).all (ans l)=true)) (fun i _=>f.length-(intOf i).toNat);case atStart=>exact⟨0,zZ,rfl,gZ,rfl⟩
 case round=>
  obtain⟨k,hk,rfl,g,HA⟩:=hrel;by_cases hlt:k<f.length
  ·obtain⟨c1,c2,c3,c4,c5⟩:=(HC'.gr g hb') k hlt;have hbr:=g.lt hb';go_wp2_with fail;refine(Ii l (wat f k) _ _ _ m _ HL.out (Gr.lt (g.alloc _) hb) (HC.gr (g.alloc _) hb) HV.out (HX _ (jP hlt)) ((g.ml hM).alloc _)).mono ?_;rintro e w1 ⟨rfl,hb1⟩;have g1:Gr w w1:=Gr.call (g.alloc _) hb1;clear c1 c2 c3 c4 c5;go_wp2
   ·go_ret;refine⟨gG (oV _ f k dW hlt ?_).symm,g1⟩;simpa[wat] using ‹(!(ans l _))=true›
   ·go_roundw;case rel=>
     refine⟨k+1,by omega,by go_num,g1,lQ _ f k dW hlt HA.out ?_⟩;simpa[wat] using ‹(!(ans l _))=false›
    case measure=>simp[intOf];omega
  ·go_wp2;go_ret;exact⟨gG (qW _ f k hlt HA.out).symm,g⟩
theorem Qg(ad:Option Addr)(cap:Nat)(w:World):Calls prog 40 #[.slice ad 0 cap] w fun e w'=>e=.returned (.int .i64 2)/\w'=w:=by go_enter func40,ntmps40;go_wp2;go_ret;exact⟨rfl,rfl⟩
theorem Aj(ad:Option Addr)(cap:Nat)(w:World):Calls prog 50 #[.slice ad 0 cap] w fun e w'=>e=.returned (.int .i64 1)/\w'=w:=by go_enter func50,ntmps50;go_wp2;go_ret;exact⟨rfl,rfl⟩
theorem sH(l:List Wnt)(ad:Option Addr)(cap:Nat)(w:World)(hl:l.length<=maxLen)(h:oW w ad l)(hwf:∀x∈l,Wnt.Wf x):Calls prog 40 #[.slice ad l.length cap] w fun e w'=>e=.returned (.int .i64 (chk l))/\Gr w w':=by
 rcases h with rfl|⟨b,off,rfl,hb,hat⟩
 ·exact(Qg ad cap w).mono fun e w' ⟨h1,h2⟩=>⟨h1,by rw[h2];exact gZ⟩
 ·exact oG l b off cap w hl hb hat hwf
theorem lR(l:List Atr)(ad:Option Addr)(cap:Nat)(w:World)(hl:l.length<=maxLen)(h:rA w ad l)(hwf:∀x∈l,Atr.Wf x):Calls prog 50 #[.slice ad l.length cap] w fun e w'=>e=.returned (.int .i64 (oB l))/\Gr w w':=by
 rcases h with rfl|⟨b,off,rfl,hb,hat⟩
 ·exact(Aj ad cap w).mono fun e w' ⟨h1,h2⟩=>⟨h1,by rw[h2];exact gZ⟩
 ·exact Ak l b off cap w hl hb hat hwf
theorem Jl(f:List Wnt)(l:List Atr)(ad' ad:Option Addr)(cap' cap:Nat)(m:Int)(w:World)(hf:f.length<=maxLen)(hl:l.length<=maxLen)(h':oW w ad' f)(h:rA w ad l)(he:kZ l=true)(hx:gN f=true)(hM:Ml m w):Calls prog 108 #[.slice ad' f.length cap',.slice ad l.length cap] w fun e w'=>e=.returned (.bool (mat l f))/\Gr w w':=by
 obtain⟨hv,hne⟩:=Hg he;obtain⟨hw,hne'⟩:=oU hx;rcases h with h|⟨b,off,rfl,hb,hat⟩
 ·exact absurd h hne
 rcases h' with h'|⟨b',off',rfl,hb',hat'⟩
 ·exact absurd h' hne'
 exact Gf f l b' off' cap' b off cap m w hf hl hb' hat' hb hat hv hw hM
theorem Tryz.infoInt:(Tryz.prog.info? 3).map (fun i=>(i.zero,i.size,i.bytes))=some (some (.int .i64 0),1,8):=by kernel_rfl
theorem Qe(l:List Atr)(fs:List (List Wnt))(ad:Option Addr)(cap:Nat)(bl offl capl:Nat)(m:Int)(w:World)(hl:l.length<=maxLen)(h:rA w ad l)(hwf:∀x∈l,Atr.Wf x)(hn:fs.length<=8796093022208)(hbl:bl<w.heap.size)(hfs:Cv w bl offl fs)(hlen:∀f∈fs,f.length<=maxLen)(hwfs:∀f∈fs,∀x∈f,Wnt.Wf x)(hM:Ml m w):Calls prog 99 #[.slice ad l.length cap,.slice (some ⟨bl,offl,none⟩) fs.length capl] w
   fun e w'=>∃v,e=.returned (.tuple #[v,.int .i64 (Ba l fs)])/\Gr w w'/\w'.ownsRow w.heap.size 3 1 v (Ds l fs).length (kT (Ds l fs)):=by
 have HE:Hid (rA w ad l):=h;have HF:Hid (∀x∈l,Atr.Wf x):=hwf;have HL:Hid (l.length<=maxLen):=hl;have HS:Hid (Cv w bl offl fs):=hfs;have HN:Hid (∀f∈fs,f.length<=maxLen):=hlen;have HW:Hid (∀f∈fs,∀x∈f,Wnt.Wf x):=hwfs;clear h hwf hl hfs hlen hwfs;obtain⟨i0,hi,hz0,hz1,hz2⟩:=info_parts Tryz.infoInt;cases h1:kZ l
 ·have Hc:Hid (oB l=1):=by show _=_;simp[oB,h1]
  have Hr:Hid (Ba l fs=1):=by show _=_;simp[Ba,h1]
  go_enter func99,ntmps99;go_wp2_with fail;refine(lR _ _ _ _ HL.out HE.out HF.out).mono ?_;rw[Hc.out];rintro e w1 ⟨rfl,hb1⟩;go_wp2_with fail;go_ret2;refine⟨_,Dc Hr.symm,hb1,?_⟩;have e:Ds l fs=[]:=by simp[Ds,Hr.out]
  rw[e];exact bF _ _ _ _
 have Hc:Hid (oB l=0):=by show _=_;simp[oB,h1]
 have HE1:Hid (kZ l=true):=h1;have Hm:Hid (Ba l fs=if fs.all gN then 0 else 2):=by show _=_;simp[Ba,h1]
 clear h1;go_enter func99,ntmps99;go_wp2_with fail;refine(lR _ _ _ _ HL.out HE.out HF.out).mono ?_;rw[Hc.out];rintro e w1 ⟨rfl,hb1⟩;go_wp2_with fail;go_loopw [7,18] (fun v i wr=>∃k:Nat,k<=fs.length/\i=.int .i64 k/\Gr w wr/\Hid ((fs.take k).all gN=true)/\Hid (wr.ownsRow w.heap.size 3 1 v (nQ l fs k).length (kT (nQ l fs k)))) (fun _ i _=>fs.length-(intOf i).toNat);case atStart=>exact⟨0,zZ,rfl,hb1,rfl,bF _ _ _ _⟩
 case round=>
  obtain⟨k,hk,rfl,g,HA,HO⟩:=hrel;by_cases hlt:k<fs.length
  ·obtain⟨ak,ck,ck1,ck2⟩:=(HS.gr g hbl) k hlt;have HK:Hid (oW wr ak (fat fs k)):=ck2;clear ck2;have hbr:=g.lt hbl;go_wp2_with fail;refine(sH (fat fs k) ak ck _ (HN _ (xX hlt)) HK.out (HW _ (xX hlt))).mono ?_;cases h2:gN (fat fs k)
   ·rw[show chk (fat fs k)=2 by simp[chk,h2]];rintro e w2 ⟨rfl,hb2⟩;(have Hr:Hid (Ba l fs=2):=by show _=_;rw[Hm.out,oV gN fs k [] hlt h2];rfl);go_wp2_with fail;go_ret2;refine⟨_,Dc Hr.symm,Gr.call g hb2,?_⟩;(have e:Ds l fs=[]:=by simp[Ds,Hr.out]);rw[e];exact bF _ _ _ _
   ·rw[show chk (fat fs k)=0 by simp[chk,h2]];rintro e w2 ⟨rfl,hb2⟩;have g2:Gr w w2:=Gr.call g hb2;go_wp2_with fail;refine(Jl (fat fs k) l ak ad ck cap m _ (HN _ (xX hlt)) HL.out (HK.gr hb2) (HE.gr g2) HE1.out h2 (g2.ml hM)).mono ?_;rintro e w3 ⟨rfl,hb3⟩;have g3:Gr w w3:=Gr.call g2 hb3;have HO3:Hid (w3.ownsRow w.heap.size 3 1 u7 (nQ l fs k).length (kT (nQ l fs k))):=gO (gO HO.out hb2) hb3;have hkl:=Mh l fs k;cases h3:mat l (fat fs k)
    ·have HN':Hid (nQ l fs (k+1)=nQ l fs k):=Xp h3;go_wp2_with fail;go_roundw;case rel=>exact⟨k+1,by omega,by go_num,g3,lQ gN fs k [] hlt HA.out h2,by rw[HN'.out];exact HO3.out⟩
     case measure=>simp[intOf];omega
    ·have HN':Hid (nQ l fs (k+1)=nQ l fs k++[k]):=Tu h3;have hsz3:=g3.size;go_wp2_with(at_builtin;refine wpList_append_own _ rfl _ _ 169 rfl w.heap.size 3 i0 (.int .i64 0) 1 8 underlying169 hi hz0 hz1 hz2 rfl (by decide) _ _ _ rfl (HO3.alloc _) ⟨w3.heap.size,0,none⟩ 1 1 [.int .i64 k] rfl rfl (cell_one_new _ _ _) ?c2 ?c3 ?c4 ?c5 ?_);case c2=>intro u hu;simp at hu;subst hu;rfl
     case c3=>unfold maxLen;omega
     case c4=>omega
     case c5=>simp;omega
     intro v' w4 hown' hgrow _;have g4:Gr w w4:=Below.grown (g3.alloc _) hgrow (by simp;omega) (fun b hb=>by
      rcases HO3.2 with⟨hv,_⟩|⟨q,cap,cur,hv,hq,_⟩
      ·rw[hv] at hb;simp[Value.ownBlock] at hb
      ·rw[hv] at hb;simp[Value.ownBlock] at hb;omega)
     (have HO4:Hid (w4.ownsRow w.heap.size 3 1 v' (nQ l fs (k+1)).length (kT (nQ l fs (k+1)))):=by show World.ownsRow _ _ _ _ _ _ _;rw[HN'.out,wF,aG];exact hown');clear hown' hgrow;go_wp2;go_roundw;case rel=>exact⟨k+1,by omega,by go_num,g4,lQ gN fs k [] hlt HA.out h2,HO4⟩
     case measure=>simp[intOf];omega
  ·go_wp2;go_ret2;(have Hr:Ba l fs=0:=by rw[Hm.out,qW gN fs k hlt HA.out];rfl);have e:Ds l fs=nQ l fs k:=by
    (have:k=fs.length:=by omega);simp[Ds,Hr,this]
   refine⟨_,Dc Hr.symm,g,?_⟩;rw[e];exact HO.out
end Go.Proofs.YtecnfgikbmcgoabGreat
