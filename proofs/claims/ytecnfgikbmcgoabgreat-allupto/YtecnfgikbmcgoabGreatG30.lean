import Derived.Test.YtecnfgikbmcgoabGreatG29
set_option maxHeartbeats 8000000
set_option maxRecDepth 100000
namespace Go.Proofs.YtecnfgikbmcgoabGreat
open Go.Proofs.Tryz
open Go.RowKit
variable {Ls:List Rln}{SB i:Nat}{T:Tc}{Xs:Nat->List Hm}{es:List Ky}{w w' wr:World}
def oA(X:List Hm):Nat:=(X.filter fun x=>decide (x.1.fr<0)).length
theorem Pn(X:List Hm)(q:Nat)(h:q<X.length):oA (X.take (q+1))=oA (X.take q)+(if(hat X q).1.fr<0 then 1 else 0):=by unfold oA;rw[oI X q h,dT,aG];by_cases hk:(hat X q).1.fr<0<;>simp[hk]
theorem Xv(X:List Hm)(q:Nat):oA (X.take q)<=X.length:=by unfold oA;exact aA (aX _ _) (dK q X)
def iT(T:Tc)(s:Ts)(b:Nat)(k:Ky)(f:List Wnt):Int:=if gN f=true then(if lJ (s.held b) k=true then 6 else if 63<nCl T s then 7 else 0) else 2
def RsP(A:Nat->Prop)(C:Rc)(T:Tc)(R:Nat->Rl)(w:World)(cs:List (Pc (List Atr)))(s:Ts)(b:Nat)(k:Ky)(f:List Wnt)(code:Int)(e:Ending)(w':World):Prop:=e=.returned (.int .i64 code)/\∃R',Fr R R' w w'/\((code≠0/\Rw A C T R' w' cs s)\/(code=0/\Rw A C T R' w' cs (s.turn cov T.adj b (ins ⟨k,f, -1⟩ (s.held b)))))
theorem Rv.hasM{s:Ts}(h:Rv T Xs Ls s){b:Nat}(hb:b<T.nb)(k:Ky):((Xs b).any fun x=>x.1.key==k)=lJ (s.held b) k:=by rw[<-h.held b hb];simp[lJ,List.any_map,Function.comp_def]
theorem Rv.ncl{s:Ts}(h:Rv T Xs Ls s)(hf:∀b,b<T.nb->∀x∈s.held b,x.fr=-1\/0<=x.fr):(sm T.nb fun b=>oA (Xs b))=nCl T s:=by unfold nCl;refine xO T.nb fun b hb=>?_;rw[<-h.held b hb];unfold oA;rw[List.filter_map,aB];congr 1;refine List.filter_congr fun x hx=>?_;have:=hf b hb x.1 (by rw[<-h.held b hb];exact aQ hx);rw[eL];simp only[eQ,decide_eq_true_eq,beq_iff_eq];omega
theorem Zj(A:Nat->Prop)(C:Rc)(T:Tc)(R:Nat->Rl)(w:World)(cs:List (Pc (List Atr)))(s:Ts)(c:Pc (List Atr))(id:Int)(f:List Wnt)(ad:Option Addr)(cap:Nat)(hT:Rw A C T R w cs s)(hc:c∈cs)(huni:cs.Pairwise fun x y=>x.num≠y.num)(hcl:cs.length<=16)(hatc:c.at'<T.nb)(hl:f.length<=maxLen)(hf:oW w ad f)(hwf:∀y∈f,Wnt.Wf y)(hA:gN f=true->FiO A w ad f)(hs:∀b,b<T.nb->Srt (s.held b))(hm:Sm T s)(hm':(ins ⟨(c.num,id),f, -1⟩ (s.held c.at')).length<=1048576)(hfr:∀b,b<T.nb->∀x∈s.held b,x.fr=-1\/0<=x.fr):Calls prog 20 #[.pointer (some ⟨C.TB,0,none⟩),.int .i64 c.num,.int .i64 id,.slice ad f.length cap] w fun e w'=>RsP A C T R w cs s c.at' (c.num,id) f (iT T s c.at' (c.num,id) f) e w':=by
 obtain⟨ads,Xs,lv,Ls,cv,rc,rt,hnb,rv,hcs⟩:=hT;have hnb8:=rt.b.nb8;have hrl:rc.length<=16:=by have:=congrArg List.length hcs;rw[aB] at this;omega
 obtain⟨ca,cc,rfl⟩:=rt.k.cl.shape;have CL:=hZ (jU C.TB ca cc rc c.num w rt.c2 rt.k.cl.rowAt hrl);have CK:=hZ (fun W (g:Gr w W)=>mC f ad cap W hl (hf.gr g) hwf);have HRT:=hZ rt;have HRV:=hZ rv;have HCS:=hZ hcs;have HM:=hZ hm;have HM':=hZ hm';have HS:=hZ hs;have HA:=hZ hA;have HFR:=hZ hfr;have HJ:Hid (∀j,j<rc.length->(kat rc j).num=c.num->(kat rc j).at'=c.at'):=fun j hj hn=>by
  have hm1:pcR (kat rc j)∈cs:=by rw[<-hcs];exact aQ (kE hj)
  have e:pcR (kat rc j)=c:=by
   refine cO fun hne=>?_;obtain⟨i1,h1,e1⟩:=bG hm1;obtain⟨i2,h2,e2⟩:=bG hc;have pw:=bZ.1 huni;have hn':(pcR (kat rc j)).num=c.num:=hn;rcases eC i1 i2 with hlt|hlt|hlt
   ·exact pw i1 i2 h1 h2 hlt (by rw[e1,e2];exact hn')
   ·subst hlt;exact hne (e1.symm.trans e2)
   ·exact pw i2 i1 h2 h1 hlt (by rw[e1,e2];exact hn'.symm)
  rw[<-e];rfl
 have HNO:Hid (∀x∈rc,x.num≠c.num->True):=fun _ _ _=>trivial;have HIN:Hid (¬∀x∈rc,x.num≠c.num):=fun h=>by rw[<-hcs] at hc;obtain⟨x,hx,rfl⟩:=aC.1 hc;exact h x hx rfl
 clear rt rv hcs hm hm' hs hA hfr hc huni HNO;go_enter func20,ntmps20;go_wp2_with fail;refine CL.mono ?_;rintro e w1 ⟨hcase,hw⟩;subst hw;rcases hcase with⟨j,hj,hk,rfl⟩|⟨hno,rfl⟩
 ·have hat2:=HJ j hj hk;have HKN:=hZ (And.intro hk hat2);have CK1:=hZ (CK _ gZ);clear CL CK hk hat2;go_wp2_with fail;refine CK1.mono ?_;rintro e w2 ⟨rfl,g2⟩;have G2:=hZ g2;clear CK1 g2;cases hok:gN f with
  |false=>
   (have hchk:chk f=2:=by simp[chk,hok]);have HSC:Hid (iT T s c.at' (c.num,id) f=2):=by show _=_;simp[iT,hok]
   rw[hchk];go_wp2_with fail;go_ret;refine⟨by rw[HSC.out];rfl,R,Fr.gr G2.out,Or.inl ⟨by rw[HSC.out];decide,ads,Xs,_,Ls,_,rc,HRT.gr G2.out,hnb,HRV.out,HCS.out⟩⟩
  |true=>
   (have hchk:chk f=0:=by simp[chk,hok]);rw[hchk];have FA:=hZ (HA hok);have hatb:(kat rc j).at'<C.nb:=by have:=HKN.2;omega
   (have hXl:(Xs (kat rc j).at').length<=1048576:=by have e:=congrArg List.length (HRV.held (kat rc j).at' (by omega));rw[aB] at e;rw[e];exact HM.h _ (by omega));have rt2:=HRT.gr G2.out;have HAS:=hZ (Mj C.TB C.HB C.nb C.hcap ca cc rc j hj (ads (kat rc j).at').1 (ads (kat rc j).at').2 (Xs (kat rc j).at') id w2 rt2.c0 rt2.c2 rt2.tlt rt2.k.cl.rowAt hatb (rt2.hbc hatb) (rt2.h.row _ hatb).at' hXl);clear rt2;go_wp2_with fail;refine HAS.mono ?_;rintro e w3 ⟨rfl,g3⟩;have G3:=hZ (Gr.call G2.out g3);clear g3 HAS G2;rw[HKN.1,HKN.2,HRV.hasM (by omega) (c.num,id)];cases hhas:lJ (s.held c.at') (c.num,id) with
   |true=>
    (have HSC:Hid (iT T s c.at' (c.num,id) f=6):=by show _=_;simp[iT,hok,hhas]);go_wp2_with fail;go_ret;refine⟨by rw[HSC.out];rfl,R,Fr.gr G3.out,Or.inl ⟨by rw[HSC.out];decide,ads,Xs,_,Ls,_,rc,HRT.gr G3.out,hnb,HRV.out,HCS.out⟩⟩
   |false=>
    have t0:=(HRT.gr G3.out).c0;(have HXL:Hid (∀b,b<C.nb->(Xs b).length<=1048576):=fun b hb=>by have e:=congrArg List.length (HRV.held b (by omega));rw[aB] at e;rw[e];exact HM.h _ (by omega));have HCN:Hid (∀b,b<C.nb->oA (Xs b)<=1048576):=fun b hb=>aA (aX _ _) (HXL b hb);go_wp2_with fail;go_loopw [11,12] (fun v i wr=>∃q:Nat,q<=C.nb/\i=.int .i64 q/\v=.int .i64 ((sm q fun b=>oA (Xs b):Nat):Int)/\Hid (Gr w1 wr)) (fun _ i _=>C.nb-(intOf i).toNat);case atStart=>exact⟨0,zZ,rfl,rfl,G3⟩
    case round=>
     obtain⟨q,hq,rfl,rfl,G⟩:=hrel;clear t0;have t0:=(HRT.gr G.out).c0;by_cases hql:q<C.nb
     ·have th:=(HRT.gr G.out).hbc hql;(have hsum:(sm q fun b=>oA (Xs b))<=q*1048576:=by rw[<-nF 1048576 q];exact oJ q (fun i hi=>HCN i (by omega)));have HN:Hid ((sm (q+1) fun b=>oA (Xs b))=(sm q fun b=>oA (Xs b))+oA (Xs q)):=rfl;have hXq:=HXL q hql;generalize(sm q fun b=>oA (Xs b))=t at *;go_wp2_with fail;clear t0 th;go_loopw [11,13] (fun v i wr=>∃p:Nat,p<=(Xs q).length/\i=.int .i64 p/\v=.int .i64 ((t+oA ((Xs q).take p):Nat):Int)/\Hid (Gr w1 wr)) (fun _ i _=>(Xs q).length-(intOf i).toNat);case atStart=>exact⟨0,zZ,rfl,by simp[oA],G⟩
      case round=>
       clear G;obtain⟨p,hp,rfl,rfl,G⟩:=hrel;have t0:=(HRT.gr G.out).c0;have th:=(HRT.gr G.out).hbc hql;by_cases hpl:p<(Xs q).length
       ·obtain⟨b',off,had,hb',d0,d1,d2,d3⟩:=((HRT.gr G.out).h.row q hql).at'.hold hpl;rw[had] at th;have HSU:=hZ (Pn (Xs q) p hpl);have hle:=Xv (Xs q) p;generalize hat (Xs q) p=x at *;by_cases e1:x.1.fr<0
        ·(have HR:Hid (t+oA ((Xs q).take (p+1))=t+oA ((Xs q).take p)+1):=by show _=_;rw[HSU.out,if_pos e1];omega);generalize oA ((Xs q).take p)=u at *;go_wp2_with fail;exact⟨⟨p+1,hpl,by simp,by rw[HR.out];go_num,G⟩,gD _ _ hpl⟩
        ·(have HR:Hid (t+oA ((Xs q).take (p+1))=t+oA ((Xs q).take p)):=by show _=_;rw[HSU.out,if_neg e1];rfl);generalize oA ((Xs q).take p)=u at *;go_wp2_with fail;exact⟨⟨p+1,hpl,by simp,by rw[HR.out],G⟩,gD _ _ hpl⟩
       ·(have hpe:p=(Xs q).length:=by omega);subst hpe;rw[bB];go_wp2_with fail;exact⟨⟨q+1,hql,by simp,by rw[HN.out],G⟩,gD _ _ hql⟩
     ·(have hqe:q=C.nb:=by omega);subst hqe;have e0:(sm C.nb fun b=>oA (Xs b))=nCl T s:=by rw[hnb];exact HRV.ncl HFR.out
      (have hsum:(sm C.nb fun b=>oA (Xs b))<=C.nb*1048576:=by rw[<-nF 1048576 C.nb];exact oJ C.nb (fun i hi=>HCN i (by omega)));rw[e0] at hsum ⊢;by_cases hfull:63<nCl T s
      ·(have HSC:Hid (iT T s c.at' (c.num,id) f=7):=by show _=_;simp[iT,hok,hhas,hfull]);have hfull':(63:Int)<(nCl T s:Int):=by omega
       go_wp2_with fail;go_ret;refine⟨by rw[HSC.out];rfl,R,Fr.gr G.out,Or.inl ⟨by rw[HSC.out];decide,ads,Xs,_,Ls,_,rc,HRT.gr G.out,hnb,HRV.out,HCS.out⟩⟩
      ·(have HSC:Hid (iT T s c.at' (c.num,id) f=0):=by show _=_;simp[iT,hok,hhas,hfull]);have hfull':¬(63:Int)<(nCl T s:Int):=by omega
       have t2:=(HRT.gr G.out).c2;obtain⟨cb,coff,rfl,hcb,k0,k1,_⟩:=(HRT.gr G.out).k.cl.rowAt.clt hj;rw[HKN.2] at k1;have FA2:=hZ (FA.keep G.size (fun k hk _=>G.block k hk));(have hbC:c.at'<C.nb:=by omega);have PU:=hZ (aAS (HRT.gr G.out) hbC (⟨(c.num,id),f, -1⟩,ad,cap) FA2.out (HXL _ hbC) (Rf (HRV.held _ hatc) (HS _ hatc)));have HXE:=hZ ((Sf (⟨(c.num,id),f, -1⟩,ad,cap) (Xs c.at')).trans (by rw[HRV.held _ hatc]));(have HXM:Hid ((pE (⟨(c.num,id),f, -1⟩,ad,cap) (Xs c.at')).length<=1048576):=by have e:=congrArg List.length HXE.out;rw[aB] at e;show _<=_;rw[e];exact HM'.out);have hn64:=HRV.n64 (by omega);go_wp2_with fail;refine PU.mono ?_;rintro e w4 ⟨rfl,R4,ads4,rt4,fr4⟩;have CH:=hZ (pH A C R4 w4 ads4 _ _ _ _ rc rt4 c.at' hbC (by simp only[if_true];exact HXM.out) (HRV.qlen HM.out) hn64);have F4:=hZ ((Fr.gr G.out).trans fr4);clear rt4 fr4 PU t0 t2 k0 k1;go_wp2_with fail;refine CH.mono ?_;rintro e w5 ⟨rfl,R5,L5,rt5,fr5,hm5⟩;simp only[if_true] at hm5;have FIN:Hid (∃R',Fr R R' w1 w5/\Rw A C T R' w5 cs (s.turn cov T.adj c.at' (ins ⟨(c.num,id),f, -1⟩ (s.held c.at')))):=⟨R5,F4.trans fr5,ads4,_,_,L5,_,rc,rt5,hnb,HRV.turn c.at' (pE (⟨(c.num,id),f, -1⟩,ad,cap) (Xs c.at')) _ HXE.out hm5,HCS.out⟩;clear rt5 fr5 hm5 CH;go_wp2_with fail;go_ret;obtain⟨R',f1,f2⟩:=FIN.out;exact⟨by rw[HSC.out];rfl,R',f1,Or.inr ⟨HSC.out,f2⟩⟩
 ·exact absurd hno HIN.out
def RuP(A:Nat->Prop)(C:Rc)(T:Tc)(R:Nat->Rl)(w:World)(cs:List (Pc (List Atr)))(s:Ts)(b:Nat)(k:Ky)(e:Ending)(w':World):Prop:=∃R',Fr R R' w w'/\((lJ (s.held b) k=false/\e=.returned (.int .i64 5)/\Rw A C T R' w' cs s)\/(lJ (s.held b) k=true/\e=.returned (.int .i64 0)/\Rw A C T R' w' cs (s.turn cov T.adj b (del k (s.held b)))))
theorem Rx(A:Nat->Prop)(C:Rc)(T:Tc)(R:Nat->Rl)(w:World)(cs:List (Pc (List Atr)))(s:Ts)(c:Pc (List Atr))(id:Int)(hT:Rw A C T R w cs s)(hc:c∈cs)(huni:cs.Pairwise fun x y=>x.num≠y.num)(hcl:cs.length<=16)(hatc:c.at'<T.nb)(hm:Sm T s):Calls prog 22 #[.pointer (some ⟨C.TB,0,none⟩),.int .i64 c.num,.int .i64 id] w fun e w'=>RuP A C T R w cs s c.at' (c.num,id) e w':=by
 obtain⟨ads,Xs,lv,Ls,cv,rc,rt,hnb,rv,hcs⟩:=hT;have hnb8:=rt.b.nb8;have hrl:rc.length<=16:=by have:=congrArg List.length hcs;rw[aB] at this;omega
 obtain⟨ca,cc,rfl⟩:=rt.k.cl.shape;have CL:=hZ (jU C.TB ca cc rc c.num w rt.c2 rt.k.cl.rowAt hrl);have HRT:=hZ rt;have HRV:=hZ rv;have HCS:=hZ hcs;have HM:=hZ hm;have HJ:Hid (∀j,j<rc.length->(kat rc j).num=c.num->(kat rc j).at'=c.at'):=fun j hj hn=>by
  have hm1:pcR (kat rc j)∈cs:=by rw[<-hcs];exact aQ (kE hj)
  have e:pcR (kat rc j)=c:=by
   refine cO fun hne=>?_;obtain⟨i1,h1,e1⟩:=bG hm1;obtain⟨i2,h2,e2⟩:=bG hc;have pw:=bZ.1 huni;have hn':(pcR (kat rc j)).num=c.num:=hn;rcases eC i1 i2 with hlt|hlt|hlt
   ·exact pw i1 i2 h1 h2 hlt (by rw[e1,e2];exact hn')
   ·subst hlt;exact hne (e1.symm.trans e2)
   ·exact pw i2 i1 h2 h1 hlt (by rw[e1,e2];exact hn'.symm)
  rw[<-e];rfl
 have HIN:Hid (¬∀x∈rc,x.num≠c.num):=fun h=>by rw[<-hcs] at hc;obtain⟨x,hx,rfl⟩:=aC.1 hc;exact h x hx rfl
 clear rt rv hcs hm hc huni;go_enter func22,ntmps22;go_wp2_with fail;refine CL.mono ?_;rintro e w1 ⟨hcase,hw⟩;subst hw;rcases hcase with⟨j,hj,hk,rfl⟩|⟨hno,rfl⟩
 ·have hat2:=HJ j hj hk;have HKN:=hZ (And.intro hk hat2);clear CL hk hat2;have hatb:(kat rc j).at'<C.nb:=by have:=HKN.2;omega
  have HXL:Hid (∀b,b<C.nb->(Xs b).length<=1048576):=fun b hb=>by have e:=congrArg List.length (HRV.held b (by omega));rw[aB] at e;rw[e];exact HM.h _ (by omega)
  have HAS:=hZ (Mj C.TB C.HB C.nb C.hcap ca cc rc j hj (ads (kat rc j).at').1 (ads (kat rc j).at').2 (Xs (kat rc j).at') id w1 HRT.c0 HRT.c2 HRT.tlt HRT.k.cl.rowAt hatb (HRT.hbc hatb) (HRT.h.row _ hatb).at' (HXL _ hatb));go_wp2_with fail;refine HAS.mono ?_;rintro e w3 ⟨rfl,g3⟩;have G:=hZ g3;clear g3 HAS;rw[HKN.1,HKN.2,HRV.hasM (by omega) (c.num,id)];cases hhas:lJ (s.held c.at') (c.num,id) with
  |false=>have HH:=hZ hhas;go_wp2_with fail;go_ret;exact⟨R,Fr.gr G.out,Or.inl ⟨HH.out,rfl,ads,Xs,_,Ls,_,rc,HRT.gr G.out,hnb,HRV.out,HCS.out⟩⟩
  |true=>have HH:=hZ hhas;have t2:=(HRT.gr G.out).c2;obtain⟨cb,coff,rfl,hcb,k0,k1,_⟩:=(HRT.gr G.out).k.cl.rowAt.clt hj;rw[HKN.2] at k1;(have hbC:c.at'<C.nb:=by omega);have PU:=hZ (Yr (HRT.gr G.out) hbC (c.num,id) (HXL _ hbC));(have HXE:Hid ((mV (c.num,id) (Xs c.at')).map (·.1)=del (c.num,id) (s.held c.at')):=by show _=_;rw[Hj,HRV.held _ hatc]);have HXM:Hid ((mV (c.num,id) (Xs c.at')).length<=1048576):=aA (aX _ _) (HXL _ hbC);have hn64:=HRV.n64 (by omega);go_wp2_with fail;refine PU.mono ?_;rintro e w4 ⟨rfl,R4,ads4,rt4,fr4⟩;have CH:=hZ (pH A C R4 w4 ads4 _ _ _ _ rc rt4 c.at' hbC (by simp only[if_true];exact HXM.out) (HRV.qlen HM.out) hn64);have F4:=hZ ((Fr.gr G.out).trans fr4);have t2':=rt4.c2;obtain⟨cb2,coff2,e9,hcb2,_,k1',_⟩:=rt4.k.cl.rowAt.clt hj;injection e9 with e9;injection e9 with e91 e92;subst e91 e92;rw[HKN.2] at k1';clear rt4 fr4 PU t2 k0 k1;go_wp2_with fail;refine CH.mono ?_;rintro e w5 ⟨rfl,R5,L5,rt5,fr5,hm5⟩;simp only[if_true] at hm5;have FIN:Hid (∃R',Fr R R' w1 w5/\Rw A C T R' w5 cs (s.turn cov T.adj c.at' (del (c.num,id) (s.held c.at')))):=⟨R5,F4.trans fr5,ads4,_,_,L5,_,rc,rt5,hnb,HRV.turn c.at' (mV (c.num,id) (Xs c.at')) _ HXE.out hm5,HCS.out⟩;clear rt5 fr5 hm5 CH;go_wp2_with fail;go_ret;obtain⟨R',f1,f2⟩:=FIN.out;exact⟨R',f1,Or.inr ⟨HH.out,rfl,f2⟩⟩
 ·exact absurd hno HIN.out
theorem Tryz.infoRSl:(Tryz.prog.info? 132).map (fun i=>(i.zero,i.size,i.bytes))=some (some (.slice none 0 0),1,24):=by kernel_rfl
theorem Tryz.infoBool:(Tryz.prog.info? 4).map (fun i=>(i.zero,i.size,i.bytes))=some (some (.bool false),1,1):=by kernel_rfl
theorem Tryz.infoRLk:(Tryz.prog.info? 117).map (fun i=>(i.zero,i.size,i.bytes))=some (some (.agg #[.int .i64 0,.int .i64 0,.slice none 0 0,.slice none 0 0]),4,64):=by kernel_rfl
def RnK(A:Nat->Prop)(w:World)(n:Int)(es:List Ky)(e:Ending)(w':World):Prop:=(yT n es=false/\e=.returned (.tuple #[.pointer none,.int .i64 4])/\Gr w w') \/(yT n es=true/\∃C R lv Ls,e=.returned (.tuple #[.pointer (some ⟨C.TB,0,none⟩),.int .i64 0])/\n=(C.nb:Int)/\Rt A C R w' (fun _=>(none,0)) (fun _=>[]) lv Ls (.slice none 0 0) []/\Ls.map Rln.av=(lkA es C.nb C.nb).map (fun p=>⟨p.1,p.2,[],[]⟩)/\Fr (fun _=>.no) R w w')
theorem Ry(A:Nat->Prop)(n:Int)(es:List Ky)(ad:Option Addr)(cap:Nat)(w:World)(hn:¬(1<=n/\n<=8/\(es.length:Int)=n-1)):Calls prog 14 #[.int .i64 n,.slice ad es.length cap] w fun e w'=>RnK A w n es e w':=by
 have TB:Hid (yT n es=false):=by
  show _=_;rw[sQ];simp only[jD,eK,decide_eq_false_iff_not];by_cases h1:1<=n
  ·by_cases h2:n<=8
   ·exact Or.inl (Or.inr (fun h3=>hn ⟨h1,h2,h3⟩))
   ·exact Or.inl (Or.inl (Or.inr h2))
  ·exact Or.inl (Or.inl (Or.inl h1))
 have HN:=hZ hn;clear hn;by_cases h1:n<1
 ·go_enter func14,ntmps14;go_wp2_with fail;exact bodyPost_ret (v:=.tuple #[.pointer none,.int .i64 4]) (by simp[results,results14,go_sem]) rfl (Or.inl ⟨TB.out,rfl,gZ⟩)
 ·by_cases h2:8<n
  ·go_enter func14,ntmps14;go_wp2_with fail;exact bodyPost_ret (v:=.tuple #[.pointer none,.int .i64 4]) (by simp[results,results14,go_sem]) rfl (Or.inl ⟨TB.out,rfl,gZ⟩)
  ·(have h3:((es.length:Int)==n-1)=false:=by simp only[beq_eq_false_iff_ne];exact fun h=>HN ⟨by omega,by omega,h⟩);go_enter func14,ntmps14;go_wp2_with fail;exact bodyPost_ret (v:=.tuple #[.pointer none,.int .i64 4]) (by simp[results,results14,go_sem]) rfl (Or.inl ⟨TB.out,rfl,gZ⟩)
theorem zA{base n g:Nat}{e:TypeId}{xs:List Value}(h:w.ownsRow base e 1 (.slice (some ⟨g,0,none⟩) n n) n xs):∃cur,w.heap[g]?=some (.cells cur e (0,0))/\cur.toList=xs:=by
 rcases h.2 with⟨h2,_⟩|⟨g',cap,cur,hv,_,hg,_,_,hs,ht⟩
 ·cases h2
 ·injection hv with hv _ hc;injection hv with hv;injection hv with h1 _;subst h1 hc;refine⟨cur,hg,?_⟩;rw[<-ht,aV (by rw[dO];omega)]
structure Rn1(w:World)(k HB TB:Nat)(lv:Value)(wr:World):Prop where
 g:Gr w wr
 h:∃cur,wr.heap[HB]?=some (.cells cur 132 (0,0))/\cur.toList=List.replicate k (.slice none 0 0)
 t:wr.heap[TB]?=some (.cells #[.slice (some ⟨HB,0,none⟩) k k,lv,.slice none 0 0] 102 (0,0))
 lo:w.heap.size<=HB/\w.heap.size<=TB
theorem Rn1.gr{k HB TB:Nat}{lv:Value}(h:Rn1 w k HB TB lv wr)(g:Gr wr w'):Rn1 w k HB TB lv w':=by obtain⟨cur,h1,h2⟩:=h.h;exact⟨Gr.call h.g g,⟨cur,gK g h1,h2⟩,gK g h.t,h.lo⟩
def Mz(S:List Bool):List Value:=S.map fun b=>.bool b
structure Rn2(w:World)(k HB TB SB:Nat)(S:List Bool)(wr:World):Prop where
 r:Rn1 w k HB TB (.slice none 0 0) wr
 s:∃cur,wr.heap[SB]?=some (.cells cur 4 (0,0))/\cur.toList=Mz S
 n:SB≠HB/\SB≠TB/\w.heap.size<=SB
theorem Rn2.cell{k HB TB:Nat}{S:List Bool}(h:Rn2 w k HB TB SB S wr)(hi:i<S.length):wr.cell? ⟨SB,i,none⟩=some (.bool (bat S i)):=by obtain⟨cur,h1,h2⟩:=h.s;rw[cZ h1,<-cA,h2];unfold Mz bat;rw[aO,aI,aJ hi];rfl
theorem Rn2.fz{k HB TB:Nat}{S:List Bool}(h:Rn2 w k HB TB SB S wr)(i:Nat):wr.frozen? ⟨SB,i,none⟩=false:=by obtain⟨cur,h1,_⟩:=h.s;exact vF h1 i
theorem Rn2.set{k HB TB:Nat}{S:List Bool}(h:Rn2 w k HB TB SB S wr)(i:Nat)(x:Bool):Rn2 w k HB TB SB (S.set i x) (wr.setCell ⟨SB,i,none⟩ (.bool x)):=by obtain⟨cur,h1,h2⟩:=h.s;obtain⟨cur',h3,h4⟩:=h.r.h;refine⟨⟨wI h.r.g h.n.2.2 _,⟨cur',(Below.heap_setCell wr ⟨SB,i,none⟩ _ _ (fun e=>h.n.1 e.symm)).trans h3,h4⟩,(Below.heap_setCell wr ⟨SB,i,none⟩ _ _ (fun e=>h.n.2.1 e.symm)).trans h.r.t,h.r.lo⟩,⟨cur.setIfInBounds i (.bool x),heap_setCell_same _ _ _ _ _ _ h1,?_⟩,h.n⟩;rw[cR,h2];simp[Mz,List.map_set]
def lk0(p:Nat×Nat):List Value:=[.int .i64 (p.1:Int),.int .i64 (p.2:Int),.slice none 0 0,.slice none 0 0]
structure Rn3(w:World)(k HB TB:Nat)(L:List (Nat×Nat))(v:Value)(wr:World):Prop where
 r:Rn1 w k HB TB v wr
 q:Qr wr 117 4 (fun i=>w.heap.size<=i/\i≠HB/\i≠TB) v L.length (L.flatMap lk0)
 n:HB≠TB
theorem Rn3.gr{k HB TB:Nat}{L:List (Nat×Nat)}{v:Value}(h:Rn3 w k HB TB L v wr)(g:Gr wr w'):Rn3 w k HB TB L v w':=⟨h.r.gr g,h.q.kept fun i hi hP=>⟨g.block i hi,hP⟩,h.n⟩
theorem Rn3.put{k HB TB:Nat}{L:List (Nat×Nat)}{v v':Value}{w1:World}(h:Rn3 w k HB TB L v wr)(a b:Nat)(hq:Qr w1 117 4 (fun i=>v'.ownBlock=some i) v' (L.length+1) (L.flatMap lk0++[.int .i64 (a:Int),.int .i64 (b:Int),.slice none 0 0,.slice none 0 0]))(hg:wr.grownBy w1 v.ownBlock)(ho:v'.ownBlock=v.ownBlock\/v'.ownBlock=some wr.heap.size):Rn3 w k HB TB (L++[(a,b)]) v' (w1.setCell ⟨TB,1,none⟩ v'):=by
 have own:=h.q.own;obtain⟨cur,h1,h2⟩:=h.r.h;have lT:=fZ h.r.t;have lH:=fZ h1;have gs:=h.r.g.size;have t1:w1.heap[TB]?=some (.cells #[.slice (some ⟨HB,0,none⟩) k k,v,.slice none 0 0] 102 (0,0)):=(hg.block TB lT (fun e=>(own TB e.symm).1.2.2 rfl)).trans h.r.t;have own':∀i,v'.ownBlock=some i->w.heap.size<=i/\i≠HB/\i≠TB:=fun i hi=>by
  rcases ho with ho|ho
  ·exact(own i (ho▸hi)).1
  ·rw[ho] at hi;injection hi with hi;omega
 refine⟨⟨wI (Below.grown h.r.g hg gs (fun i hi=>(own i hi).1.1)) h.r.lo.2 _,⟨cur,?_,h2⟩,?_,h.r.lo⟩,?_,h.n⟩
 ·rw[Below.heap_setCell w1 ⟨TB,1,none⟩ v' HB h.n];exact(hg.block HB lH (fun e=>(own HB e.symm).1.2.1 rfl)).trans h1
 ·rw[heap_setCell_same _ _ _ _ _ _ t1];rfl
 ·rw[aG,List.flatMap_append];simp only[cQ,List.flatMap_nil,aZ];exact hq.kept fun i _ hi=>⟨Below.heap_setCell w1 ⟨TB,1,none⟩ v' i (own' i hi).2.2,own' i hi⟩
def ln0(p:Nat×Nat):Rln:=⟨p.1,p.2,[],none,0,[],none,0⟩
theorem Xm(L:List (Nat×Nat)):iH (L.map ln0)=L.flatMap lk0:=by unfold iH;rw[List.flatMap_map];rfl
theorem Rn3.done{A:Nat->Prop}{k HB TB:Nat}{L:List (Nat×Nat)}{v:Value}(h:Rn3 w k HB TB L v wr)(hk1:1<=k)(hk8:k<=8)(hA:∀i,A i->i<w.heap.size):∃R,Rt A ⟨k,TB,HB,k⟩ R wr (fun _=>(none,0)) (fun _=>[]) v (L.map ln0) (.slice none 0 0) []/\Fr (fun _=>.no) R w wr:=by
 have own:=h.q.own;obtain⟨cur,h1,h2⟩:=h.r.h;have lT:=fZ h.r.t;have lH:=fZ h1;have gs:=h.r.g.size;have lo1:=h.r.lo.1;have lo2:=h.r.lo.2;have nn:=h.n;have low:∀i,i<w.heap.size->(if i=HB then Rl.hm 0 else if i=TB then .cm else if v.ownBlock=some i then .lm else .no)=.no:=fun i hi=>by rw[if_neg (by omega),if_neg (by omega),if_neg (fun e=>by have:=(own i e).1.1;omega)]
 refine⟨fun i=>if i=HB then .hm 0 else if i=TB then .cm else if v.ownBlock=some i then .lm else .no,⟨⟨hk8,hk1,h.r.t,?_,⟨cur,h1,fun b hb=>?_⟩,if_pos rfl,fun i hi=>?_,fun i hi=>low i (hA i hi),fun i hi=>aF (hA i hi) gs⟩,⟨fun b hb=>Or.inl rfl,fun b hb x hx=>by cases hx⟩,⟨?_,fun j hj=>?_,fun l hl x hx=>?_,fun l hl=>?_⟩,⟨Qr.nil _ _ _ _,fun j hj=>absurd hj (cL j),fun c hc=>by cases hc⟩⟩,⟨h.r.g.os,h.r.g.tape,h.r.g.output,gs,fun i hi _=>h.r.g.block i hi,fun i hi=>low i hi⟩⟩
 ·show(if TB=HB then Rl.hm 0 else if TB=TB then .cm else _)=.cm;rw[if_neg (fun e=>nn e.symm),if_pos rfl]
 ·rw[<-cA,h2];have hb:b<k:=hb;simp[hb]
 ·show(if i=HB then Rl.hm 0 else if i=TB then .cm else if v.ownBlock=some i then .lm else .no)=.no;rw[if_neg (by omega),if_neg (by omega),if_neg (fun e=>by have:=(own i e).2;omega)]
 ·rw[Xm,aB];refine⟨h.q.1,?_⟩;rcases h.q.2 with h3|⟨g,off,cap,cur',hv,hP,rr⟩
  ·exact Or.inl h3
  ·refine Or.inr ⟨g,off,cap,cur',hv,?_,rr⟩;show(if g=HB then Rl.hm 0 else if g=TB then .cm else if v.ownBlock=some g then .lm else .no)=.lm;rw[if_neg hP.2.1,if_neg hP.2.2,if_pos (by rw[hv];rfl)]
 ·obtain⟨p,_,e⟩:=aC.1 (kG hj);rw[<-e];exact Qr.nil _ _ _ _
 ·obtain⟨p,_,rfl⟩:=aC.1 hl;cases hx
 ·obtain⟨p,_,rfl⟩:=aC.1 hl;exact Or.inl rfl
theorem Gc(es:List Ky)(a b q:Nat)(h:q<es.length):mlk (es.take (q+1)) a b=mlk (es.take q) a b++(if isE a b (eat es q)=true then[eat es q] else[]):=by unfold mlk;rw[sC h,dT];congr 1;cases hc:isE a b (eat es q)<;>simp[hc]
def lkP(es:List Ky)(k a b p:Nat):List (Nat×Nat):=lkA es k a++lkR es a b++(mlk (es.take p) a b).map fun _=>(a,b)
theorem rU(es:List Ky)(k a b:Nat):lkP es k a b 0=lkA es k a++lkR es a b:=by simp[lkP,mlk]
theorem Xj(es:List Ky)(k a b:Nat):lkP es k a b es.length=lkA es k a++lkR es a (b+1):=by unfold lkP;rw[bB,Gh,<-aU];rfl
theorem Xh{a b p:Nat}(k:Nat)(h:p<es.length)(hc:isE a b (eat es p)=true):lkP es k a b (p+1)=lkP es k a b p++[(a,b)]:=by unfold lkP;rw[Gc es a b p h,if_pos hc,aS,<-aU];rfl
theorem Zv{a b p:Nat}(k:Nat)(h:p<es.length)(hc:isE a b (eat es p)=false):lkP es k a b (p+1)=lkP es k a b p:=by unfold lkP;rw[Gc es a b p h,if_neg (by rw[hc];exact fun e=>by cases e),aZ]
theorem Xi(hg:tQ (fun b=>b) es){k a b:Nat}(p:Nat)(ha:a<=8)(hb:b<=8)(hk:k<=8):(lkP es k a b p).length<=1000:=by
 unfold lkP;have h1:=Ma hg k a;have h2:=Du hg a b;have h3:(mlk (es.take p) a b).length<=es.length:=aA (aX _ _) (dK p es);have h4:a*k<=64:=aA (eI ha hk) (by omega);have h5:(mlk (es.take p) a b).length<=(mlk es a b).length:=by unfold mlk;exact(List.Sublist.filter _ (List.take_sublist p es)).length_le
 have h6:=(xS es _ hg a b).2;simp only[aG,aB];omega
theorem pW.gr'{ad:Option Addr}(h:pW w ad es)(g:Gr w w')(hi:i<es.length):∃b off,ad=some ⟨b,off,none⟩/\w'.cell? ⟨b,off+i*2,none⟩=some (.int .i64 (eat es i).1)/\w'.cell? ⟨b,off+i*2+1,none⟩=some (.int .i64 (eat es i).2)/\b<w.heap.size:=by
 rcases h with rfl|⟨b,off,rfl,hb,hc⟩
 ·cases hi
 ·obtain⟨h1,h2⟩:=hc i hi;exact⟨b,off,rfl,by rw[(gP g).1 _ _ hb];exact h1,by rw[(gP g).1 _ _ hb];exact h2,hb⟩
theorem Py(p:Ky->Bool)(l:List Ky)(q:Nat)(h:q<l.length):(l.take (q+1)).all p=((l.take q).all p&&p (eat l q)):=by rw[sC h,List.all_append];simp
theorem Zl(A:Nat->Prop)(k:Nat)(es:List Ky)(ad:Option Addr)(cap:Nat)(w:World)(hn1:1<=k)(hn2:k<=8)(hn3:es.length+1=k)(h:pW w ad es)(hA:∀i,A i->i<w.heap.size):Calls prog 14 #[.int .i64 k,.slice ad es.length cap] w fun e w'=>RnK A w k es e w':=by
 obtain⟨i0,hi,hz0,hz1,hz2⟩:=info_parts Tryz.infoRSl;have HE:=hZ h;have HA:=hZ hA;clear h hA;have f1:¬(k:Int)<1:=by omega
 have f2:¬(8:Int)<(k:Int):=by omega
 have f3:((es.length:Int)==(k:Int)-1)=true:=by simp;omega
 go_enter func14,ntmps14;have HN3:=hZ hn3;have hel:es.length<=8:=by omega
 clear hn3;go_wp2_with(at_make;refine wpList_make_full _ rfl _ _ 98 rfl w.heap.size 132 i0 _ 1 underlying98 hi hz0 hz1 _ _ _ _ k rfl rfl (by omega) (by omega) ?b2 ?b3 lZ ?_);case b2=>omega
 case b3=>unfold maxLen;omega
 intro w1 hown1 hgrow1;have G1:Gr w w1:=Below.grown (Gr.refl w) hgrow1 lZ (fun b hb=>by cases hb);obtain⟨cur0,hc0,hc1⟩:=zA hown1;rw[toList_madeCells_one] at hc1;have hsl:w.heap.size<w1.heap.size:=fZ hc0;have N0:Hid (Rn1 w k w.heap.size w1.heap.size (.slice none 0 0) (w1.alloc (.cells #[.slice (some ⟨w.heap.size,0,none⟩) k k,.slice none 0 0,.slice none 0 0] 102))):=⟨G1.alloc _,⟨cur0,gK ((Gr.refl w1).alloc _) hc0,hc1⟩,fY w1 _,lZ,Nat.le_of_lt hsl⟩;clear hown1 hgrow1 G1 hc0 hc1;go_wp2_with fail;generalize w1.alloc (.cells #[.slice (some ⟨w.heap.size,0,none⟩) k k,.slice none 0 0,.slice none 0 0] 102)=W1 at *;go_loopw [7] (fun i wr=>∃q:Nat,q<=es.length/\i=.int .i64 q/\Hid (Rn1 w k w.heap.size w1.heap.size (.slice none 0 0) wr)/\Hid ((es.take q).all (inR k)=true)) (fun i _=>es.length-(intOf i).toNat);case atStart=>exact⟨0,zZ,rfl,N0,rfl⟩
 case round=>
  clear N0;obtain⟨q,hq,rfl,NR,HAL⟩:=hrel;by_cases hql:q<es.length
  ·obtain⟨b,off,rfl,c0,c1,hb⟩:=HE.gr' NR.g hql;have HS:=hZ (Py (inR k) es q hql);(have HB:Hid (inR k (eat es q)=false->yT k es=false):=fun hx=>by unfold yT;(have:es.all (inR (k:Int).toNat)=false:=by rw[fG];exact⟨eat es q,xZ hql,by simp only[cM,hx];exact fun e=>by cases e⟩);rw[this];simp);have HIN:Hid (inR k (eat es q)=(decide (0<=(eat es q).1)&&decide (0<=(eat es q).2)&&decide ((eat es q).1<k)&&decide ((eat es q).2<k))):=rfl;generalize eat es q=x at *;obtain⟨x1,x2⟩:=x;simp only at HIN;by_cases e1:x1<0
   ·have HF:=hZ (HB (by rw[HIN.out];simp;omega));clear HS HB HIN;go_wp2_with fail;exact bodyPost_ret (v:=.tuple #[.pointer none,.int .i64 4]) (by simp[results,results14,go_sem]) rfl (Or.inl ⟨HF.out,rfl,NR.g⟩)
   by_cases e2:x2<0
   ·have HF:=hZ (HB (by rw[HIN.out];simp;omega));clear HS HB HIN;go_wp2_with fail;exact bodyPost_ret (v:=.tuple #[.pointer none,.int .i64 4]) (by simp[results,results14,go_sem]) rfl (Or.inl ⟨HF.out,rfl,NR.g⟩)
   by_cases e3:(k:Int)<=x1
   ·have HF:=hZ (HB (by rw[HIN.out];simp;omega));clear HS HB HIN;go_wp2_with fail;exact bodyPost_ret (v:=.tuple #[.pointer none,.int .i64 4]) (by simp[results,results14,go_sem]) rfl (Or.inl ⟨HF.out,rfl,NR.g⟩)
   by_cases e4:(k:Int)<=x2
   ·have HF:=hZ (HB (by rw[HIN.out];simp;omega));clear HS HB HIN;go_wp2_with fail;exact bodyPost_ret (v:=.tuple #[.pointer none,.int .i64 4]) (by simp[results,results14,go_sem]) rfl (Or.inl ⟨HF.out,rfl,NR.g⟩)
   ·(have HT:Hid ((es.take (q+1)).all (inR k)=true):=by show _=_;rw[HS.out,HAL.out,HIN.out];simp;omega);clear HS HB HIN;go_wp2_with fail;exact⟨⟨q+1,hql,by simp,NR,HT⟩,gD _ _ hql⟩
  ·(have hqe:q=es.length:=by omega);subst hqe;have HIA:Hid (∀e∈es,inR k e=true):=by have:=HAL.out;rw[bB,cJ] at this;exact this
   clear HAL;obtain⟨j0,gi,gz0,gz1,gz2⟩:=info_parts Tryz.infoBool;go_wp2_with(at_make;refine wpList_make_full _ rfl _ _ 113 rfl wr.heap.size 4 j0 _ 1 underlying113 gi gz0 gz1 _ _ _ _ k rfl rfl (by omega) (by omega) ?b2 ?b3 lZ ?_);case b2=>rw[gz2];omega
   case b3=>unfold maxLen;omega
   intro w3 hown3 hgrow3;have G3:Gr wr w3:=Below.grown (Gr.refl wr) hgrow3 lZ (fun b hb=>by cases hb);obtain⟨cur3,hc3,hc4⟩:=zA hown3;rw[toList_madeCells_one] at hc4;have hSB:=fZ hc3;have hTB:=fZ NR.t;(have hHB:w.heap.size<wr.heap.size:=by obtain⟨c,h1,_⟩:=NR.h;exact fZ h1);have N2:Rn2 w k w.heap.size w1.heap.size wr.heap.size (List.replicate k false) w3:=⟨NR.gr G3,⟨cur3,hc3,by rw[hc4];simp[Mz]⟩,by omega,by omega,by omega⟩;have s0:=N2.cell (i:=0) (by simp;omega);have z0:=N2.fz 0;have N3:Hid (Rn2 w k w.heap.size w1.heap.size wr.heap.size (kP k) (w3.setCell ⟨wr.heap.size,0,none⟩ (.bool true))):=N2.set 0 true;clear hown3 hgrow3 G3 hc3 hc4 N2 NR;generalize wr.heap.size=SB at *;go_wp2_with fail;clear s0 z0;generalize w3.setCell ⟨SB,0,none⟩ (.bool true)=W3 at *;go_loopw [11] (fun i wr=>∃q:Nat,q<=k/\i=.int .i64 q/\Hid (Rn2 w k w.heap.size w1.heap.size SB (lL es (kP k) q) wr)) (fun i _=>k-(intOf i).toNat);case atStart=>exact⟨0,zZ,rfl,N3⟩
   case round=>
    clear N3;obtain⟨q,hq,rfl,NR⟩:=hrel;by_cases hqk:q<k
    ·(have HLS:Hid ((lL es (kP k) q).length=k):=by show _=_;rw[mI,mB]);have NR0:Hid (Rn2 w k w.heap.size w1.heap.size SB (iR (es.take 0) (lL es (kP k) q)) wr):=NR;have HNX:Hid (lL es (kP k) (q+1)=iR es (lL es (kP k) q)):=rfl;clear NR;generalize lL es (kP k) q=S0 at *;go_wp2_with fail;go_loopw [12] (fun i wr=>∃p:Nat,p<=es.length/\i=.int .i64 p/\Hid (Rn2 w k w.heap.size w1.heap.size SB (iR (es.take p) S0) wr)) (fun i _=>es.length-(intOf i).toNat);case atStart=>exact⟨0,zZ,rfl,NR0⟩
     case round=>
      clear NR0;obtain⟨p,hp,rfl,NR⟩:=hrel;by_cases hpl:p<es.length
      ·obtain⟨b,off,rfl,c0,c1,hb⟩:=HE.gr' NR.r.g hpl;obtain⟨u,v,hx,hu,hv⟩:=pF.1 (HIA _ (xZ hpl));(have HS2:Hid (iR (es.take (p+1)) S0=oM (iR (es.take p) S0) ((u:Int),(v:Int))):=by show _=_;unfold iR;rw[sC hpl,List.foldl_append,hx];rfl);have HX:=hZ hx;rw[hx] at c0 c1;(have hlS:(iR (es.take p) S0).length=k:=by rw[qP];exact HLS.out);have su:=NR.cell (i:=u) (by omega);have sv:=NR.cell (i:=v) (by omega);(have HE2:Hid (oM (iR (es.take p) S0) ((u:Int),(v:Int))=((iR (es.take p) S0).set u (bat (iR (es.take p) S0) u||bat (iR (es.take p) S0) v)).set v (bat (iR (es.take p) S0) u||bat (iR (es.take p) S0) v)):=by show _=_;simp[oM]);clear hx;generalize iR (es.take p) S0=S at *;have hbS:b<wr.heap.size:=NR.r.g.lt hb;generalize hbu:bat S u=bu at *;generalize hbv:bat S v=bv at *;(have hu0:(0:Int)<=(u:Int):=by omega);(have hu1:(u:Int)<(k:Int):=by omega);(have hv0:(0:Int)<=(v:Int):=by omega);(have hv1:(v:Int)<(k:Int):=by omega);clear hbu hbv;cases bu with
       |true=>have N1:=NR.set u true;have sv':=N1.cell (i:=v) (by rw[bR];omega);have zu:=NR.fz u;have zv:=N1.fz v;obtain⟨b2,off2,e9,c0',c1',_⟩:=HE.gr' N1.r.g hpl;injection e9 with e9;injection e9 with e91 e92;subst e91 e92;rw[HX.out] at c0' c1';(have N2:Hid (Rn2 w k w.heap.size w1.heap.size SB (iR (es.take (p+1)) S0) ((wr.setCell ⟨SB,u,none⟩ (.bool true)).setCell ⟨SB,v,none⟩ (.bool true))):=by show Rn2 _ _ _ _ _ _ _;rw[HS2.out,HE2.out,Bool.true_or];exact N1.set v true);clear N1 NR HS2 HE2;go_wp2_with fail;exact⟨⟨p+1,hpl,by simp,N2⟩,gD _ _ hpl⟩
       |false=>have N1:=NR.set u bv;have sv':=N1.cell (i:=v) (by rw[bR];omega);have zu:=NR.fz u;have zv:=N1.fz v;obtain⟨b2,off2,e9,c0',c1',_⟩:=HE.gr' N1.r.g hpl;injection e9 with e9;injection e9 with e91 e92;subst e91 e92;rw[HX.out] at c0' c1';(have N2:Hid (Rn2 w k w.heap.size w1.heap.size SB (iR (es.take (p+1)) S0) ((wr.setCell ⟨SB,u,none⟩ (.bool bv)).setCell ⟨SB,v,none⟩ (.bool bv))):=by show Rn2 _ _ _ _ _ _ _;rw[HS2.out,HE2.out,fA];exact N1.set v bv);clear N1 NR HS2 HE2;go_wp2_with fail;exact⟨⟨p+1,hpl,by simp,N2⟩,gD _ _ hpl⟩
      ·(have hpe:p=es.length:=by omega);subst hpe;rw[bB] at NR;go_wp2_with fail;exact⟨⟨q+1,hqk,by simp,by rw[HNX.out];exact NR⟩,gD _ _ hqk⟩
    ·(have hqe:q=k:=by omega);subst hqe;have HSL:Hid ((lL es (kP q) q).length=q):=by show _=_;rw[mI,mB]
     (have HRB:Hid (yT q es=(lL es (kP q) q).all id):=by show _=_;(have a1:es.all (inR (q:Int).toNat)=true:=by rw[cM];exact cJ.2 HIA.out);have a2:=HN3.out;unfold yT;rw[a1];simp only[cM,Bool.and_true];(have b1:decide ((1:Int)<=q)=true:=by simp;omega);(have b2:decide ((q:Int)<=8)=true:=by simp;omega);(have b3:decide ((es.length:Int)=(q:Int)-1)=true:=by simp;omega);rw[b1,b2,b3];rfl);generalize lL es (kP q) q=S at *;go_wp2_with fail;go_loopw [14] (fun i wr=>∃p:Nat,p<=q/\i=.int .i64 p/\Hid (Rn2 w q w.heap.size w1.heap.size SB S wr)/\Hid (∀j,j<p->bat S j=true)) (fun i _=>q-(intOf i).toNat);case atStart=>exact⟨0,zZ,rfl,NR,fun j hj=>absurd hj (cL j)⟩
     case round=>
      clear NR;obtain⟨p,hp,rfl,NR,HB⟩:=hrel;by_cases hpl:p<q
      ·have sc:=NR.cell (i:=p) (by have:=HSL.out;omega);(have p0:(0:Int)<=(p:Int):=by omega);(have p1:(p:Int)<(q:Int):=by omega);cases hbp:bat S p with
       |false=>
        (have HF:Hid (yT q es=false):=by show _=_;rw[HRB.out,<-Bool.not_eq_true,Em];intro h;have:=h p (by have:=HSL.out;omega);rw[hbp] at this;cases this);rw[hbp] at sc;go_wp2_with fail;exact bodyPost_ret (v:=.tuple #[.pointer none,.int .i64 4]) (by simp[results,results14,go_sem]) rfl (Or.inl ⟨HF.out,rfl,NR.r.g⟩)
       |true=>
        have HB2:Hid (∀j,j<p+1->bat S j=true):=fun j hj=>by
         by_cases h:j<p
         ·exact HB j h
         ·(obtain rfl:j=p:=by omega);exact hbp
        rw[hbp] at sc;go_wp2_with fail;exact⟨⟨p+1,hpl,by simp,NR,HB2⟩,gD _ _ hpl⟩
      ·(have hpe:p=q:=by omega);subst hpe;have HT:Hid (yT p es=true):=by show _=_;rw[HRB.out,Em];exact fun i hi=>HB i (by have:=HSL.out;omega)
       have HGD:=hZ (Ec (by rw[<-sQ];exact HT.out)).1;have N5:Hid (∃v,Rn3 w p w.heap.size w1.heap.size (lkP es p 0 0 0) v wr):=⟨_,NR.r,by rw[rU];exact Qr.nil _ _ _ _,by omega⟩;clear NR HB HRB HSL;obtain⟨l0,li,lz0,lz1,lz2⟩:=info_parts Tryz.infoRLk;go_wp2_with fail;go_loopw [15] (fun i wr=>∃a:Nat,a<=p/\i=.int .i64 a/\Hid (∃v,Rn3 w p w.heap.size w1.heap.size (lkP es p a 0 0) v wr)) (fun i _=>p-(intOf i).toNat);case atStart=>exact⟨0,zZ,rfl,N5⟩
       case round=>
        clear N5;obtain⟨a,ha,rfl,NA⟩:=hrel;by_cases hal:a<p
        ·go_wp2_with fail;go_loopw [16] (fun i wr=>∃b:Nat,b<=p/\i=.int .i64 b/\Hid (∃v,Rn3 w p w.heap.size w1.heap.size (lkP es p a b 0) v wr)) (fun i _=>p-(intOf i).toNat);case atStart=>exact⟨0,zZ,rfl,NA⟩
         case round=>
          clear NA;obtain⟨b,hb,rfl,NB⟩:=hrel;by_cases hbl:b<p
          ·go_wp2_with fail;go_loopw [17] (fun i wr=>∃q:Nat,q<=es.length/\i=.int .i64 q/\Hid (∃v,Rn3 w p w.heap.size w1.heap.size (lkP es p a b q) v wr)) (fun i _=>es.length-(intOf i).toNat);case atStart=>exact⟨0,zZ,rfl,NB⟩
           case round=>
            clear NB;obtain⟨q,hq,rfl,NQ⟩:=hrel;by_cases hql2:q<es.length
            ·obtain⟨v0,NV⟩:=NQ.out;obtain⟨be,off,rfl,c0,c1,hbe⟩:=HE.gr' NV.r.g hql2;have HY:=hZ (fun hc=>Xh (a:=a) (b:=b) p hql2 hc);have HNO:=hZ (fun hc=>Zv (a:=a) (b:=b) p hql2 hc);have HLL:=hZ (Xi HGD.out (k:=p) (a:=a) (b:=b) q (by omega) (by omega) (by omega));have HISE:Hid (isE a b (eat es q)=((eat es q==((a:Int),(b:Int)))||(eat es q==((b:Int),(a:Int))))):=rfl;have HNV:=hZ NV;clear NV;have hbel:be<wr.heap.size:=HNV.r.g.lt hbe;generalize eat es q=x at *;obtain⟨x1,x2⟩:=x;simp only at c0 c1;have q1:=Ke x1 x2 a b;have q2:=Ke x1 x2 b a;by_cases m1:x1=a/\x2=b
             ·(have HC:Hid (isE a b (x1,x2)=true):=by show _=_;rw[HISE.out];simp[m1.1,m1.2]);have m1':(x1==(a:Int)&&x2==(b:Int))=true:=by simp[m1.1,m1.2]
              rw[m1'] at q1;clear m1 m1' q2;obtain⟨va,vk,rfl⟩:=HNV.q.shape;have HYE:=hZ (HY HC.out);have NV2:=hZ (HNV.gr (((Gr.refl wr).alloc (.cells #[.int .i64 x1,.int .i64 x2] 30)).alloc (.cells #[.int .i64 (a:Int),.int .i64 (b:Int),.slice none 0 0,.slice none 0 0] 117)));have hTBl:w1.heap.size<wr.heap.size:=fZ HNV.r.t;have hln:=HLL.out;(have t1:wr.cell? ⟨w1.heap.size,1,none⟩=some (.slice va (lkP es p a b q).length vk):=by rw[cZ HNV.r.t];rfl);clear HNO HY HISE;go_wp2_with(at_builtin;refine lU rfl _ _ 99 rfl 117 l0 _ 4 64 underlying99 li lz0 lz1 lz2 rfl _ _ _ _ rfl NV2.q ⟨wr.heap.size+1,0,none⟩ 1 1 [.int .i64 (a:Int),.int .i64 (b:Int),.slice none 0 0,.slice none 0 0] rfl (by omega) rfl (World.news_of_block (jN (by simp))) ?k2 ?k3 ?k4 ?_);case k2=>intro t ht;simp at ht;rcases ht with rfl|rfl|rfl|rfl<;>rfl
              case k3=>unfold maxLen;omega
              case k4=>omega
              intro v5 w5 hq5 hg5 ho5 _;obtain⟨ya,yk,rfl⟩:=hq5.shape;have N6:=hZ (NV2.put a b hq5 hg5 (by rw[gX,gX];exact ho5));have b5:w5.heap[w1.heap.size]?=some (.cells #[.slice (some ⟨w.heap.size,0,none⟩) p p,.slice va (lkP es p a b q).length vk,.slice none 0 0] 102 (0,0)):=(hg5.block w1.heap.size (by rw[gX,gX];omega) (fun e=>(NV2.q.own _ e.symm).1.2.2 rfl)).trans NV2.r.t;(have hc5:w5.cell? ⟨w1.heap.size,1,none⟩=some (.slice va (lkP es p a b q).length vk):=by rw[cZ b5];rfl);have hf5:=vF b5 1;clear hq5 hg5 ho5 NV2 b5 t1 c0 c1;go_wp2_with fail;exact⟨⟨q+1,hql2,by simp,by rw[HYE.out];exact⟨_,N6.out⟩⟩,gD _ _ hql2⟩
             by_cases m2:x1=b/\x2=a
             ·(have HC:Hid (isE a b (x1,x2)=true):=by show _=_;rw[HISE.out];simp[m2.1,m2.2]);have m1':(x1==(a:Int)&&x2==(b:Int))=false:=by simp;exact fun h1 h2=>m1 ⟨h1,h2⟩
              (have m2':(x1==(b:Int)&&x2==(a:Int))=true:=by simp[m2.1,m2.2]);rw[m1'] at q1;rw[m2'] at q2;clear m1 m1' m2 m2';obtain⟨va,vk,rfl⟩:=HNV.q.shape;have HYE:=hZ (HY HC.out);have NV2:=hZ (HNV.gr (((Gr.refl wr).alloc (.cells #[.int .i64 x1,.int .i64 x2] 30)).alloc (.cells #[.int .i64 (a:Int),.int .i64 (b:Int),.slice none 0 0,.slice none 0 0] 117)));have hTBl:w1.heap.size<wr.heap.size:=fZ HNV.r.t;have hln:=HLL.out;have t1:wr.cell? ⟨w1.heap.size,1,none⟩=some (.slice va (lkP es p a b q).length vk):=by rw[cZ HNV.r.t];rfl
              clear HNO HY HISE;go_wp2_with(at_builtin;refine lU rfl _ _ 99 rfl 117 l0 _ 4 64 underlying99 li lz0 lz1 lz2 rfl _ _ _ _ rfl NV2.q ⟨wr.heap.size+1,0,none⟩ 1 1 [.int .i64 (a:Int),.int .i64 (b:Int),.slice none 0 0,.slice none 0 0] rfl (by omega) rfl (World.news_of_block (jN (by simp))) ?k2 ?k3 ?k4 ?_);case k2=>intro t ht;simp at ht;rcases ht with rfl|rfl|rfl|rfl<;>rfl
              case k3=>unfold maxLen;omega
              case k4=>omega
              intro v5 w5 hq5 hg5 ho5 _;obtain⟨ya,yk,rfl⟩:=hq5.shape;have N6:=hZ (NV2.put a b hq5 hg5 (by rw[gX,gX];exact ho5));have b5:w5.heap[w1.heap.size]?=some (.cells #[.slice (some ⟨w.heap.size,0,none⟩) p p,.slice va (lkP es p a b q).length vk,.slice none 0 0] 102 (0,0)):=(hg5.block w1.heap.size (by rw[gX,gX];omega) (fun e=>(NV2.q.own _ e.symm).1.2.2 rfl)).trans NV2.r.t;(have hc5:w5.cell? ⟨w1.heap.size,1,none⟩=some (.slice va (lkP es p a b q).length vk):=by rw[cZ b5];rfl);have hf5:=vF b5 1;clear hq5 hg5 ho5 NV2 b5 t1 c0 c1;go_wp2_with fail;exact⟨⟨q+1,hql2,by simp,by rw[HYE.out];exact⟨_,N6.out⟩⟩,gD _ _ hql2⟩
             ·have HC:Hid (isE a b (x1,x2)=false):=by show _=_;rw[HISE.out,<-Bool.not_eq_true];simp only[cN,beq_iff_eq,cP];exact fun h=>h.elim m1 m2
              (have m1':(x1==(a:Int)&&x2==(b:Int))=false:=by simp;exact fun h1 h2=>m1 ⟨h1,h2⟩);have m2':(x1==(b:Int)&&x2==(a:Int))=false:=by simp;exact fun h1 h2=>m2 ⟨h1,h2⟩
              rw[m1'] at q1;rw[m2'] at q2;have HYE:=hZ (HNO HC.out);clear m1 m1' m2 m2' HNO HY HISE;go_wp2_with fail;exact⟨⟨q+1,hql2,by simp,by rw[HYE.out];exact⟨_,HNV.gr ((Gr.refl wr).alloc _)⟩⟩,gD _ _ hql2⟩
            ·(have hqe2:q=es.length:=by omega);subst hqe2;go_wp2_with fail;exact⟨⟨b+1,hbl,by simp,by rw[rU,<-Xj];exact NQ⟩,gD _ _ hbl⟩
          ·(have hbe2:b=p:=by omega);subst hbe2;go_wp2_with fail;exact⟨⟨a+1,hal,by simp,by rw[rU,Gi];rw[rU] at NB;simpa[lkR] using NB⟩,gD _ _ hal⟩
        ·(have hae:a=p:=by omega);subst hae;have HFN:Hid (∃R v,Rt A ⟨a,w1.heap.size,w.heap.size,a⟩ R wr (fun _=>(none,0)) (fun _=>[]) v ((lkA es a a).map ln0) (.slice none 0 0) []/\Fr (fun _=>.no) R w wr):=by obtain⟨v,NV⟩:=NA.out;rw[rU] at NV;(have NV':Rn3 w a w.heap.size w1.heap.size (lkA es a a) v wr:=by simpa[lkR] using NV);obtain⟨R,h1,h2⟩:=NV'.done hn1 hn2 HA.out;exact⟨R,v,h1,h2⟩
         clear NA;go_wp2_with fail;obtain⟨R,v,h1,h2⟩:=HFN.out;exact bodyPost_ret (v:=.tuple #[.pointer (some ⟨w1.heap.size,0,none⟩),.int .i64 0]) (by simp[results,results14,go_sem]) rfl (Or.inr ⟨HT.out,⟨a,w1.heap.size,w.heap.size,a⟩,R,v,_,rfl,rfl,h1,by rw[bV];rfl,h2⟩)
end Go.Proofs.YtecnfgikbmcgoabGreat
