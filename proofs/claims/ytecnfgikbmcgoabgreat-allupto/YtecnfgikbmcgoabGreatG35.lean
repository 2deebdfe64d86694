import Derived.Test.YtecnfgikbmcgoabGreatG34
set_option maxHeartbeats 8000000
set_option maxRecDepth 100000
namespace Go.Proofs.YtecnfgikbmcgoabGreat
open Go.Proofs.Tryz
open Go.RowKit
variable {E F:Type}{K2:List Ky}{M M' OB PB b0 fn:Nat}{c:Pc (List Atr)}{code:Int}{cs':List (Pc (List Atr))}{home:Int->Nat}{nxt:Nat->Nat->Int}{s':Ts}
def nA(e:List Atr):Int:=if kZ e=true then 0 else 1
def rQ(s:Ts)(c:Pc (List Atr))(e:List Atr)(cs:List (Pc (List Atr))):List (Pc (List Atr)):=if kZ e=true then cs.map (jA mat (s.held c.at') (true,c.num) e) else cs
def yV(T:Tc)(s:Ts)(c:Pc (List Atr))(e:List Atr):Ts:=if kZ e=true then s.come T.adj mat c.at' (-1) e else s
theorem Zk(A:Nat->Prop)(C:Rc)(T:Tc)(R:Nat->Rl)(w:World)(cs:List (Pc (List Atr)))(s:Ts)(c:Pc (List Atr))(e:List Atr)(ead:Option Addr)(ecap:Nat)(hW:Rw A C T R w cs s)(hc:c∈cs)(huni:cs.Pairwise fun x y=>x.num≠y.num)(hcl:cs.length<=16)(hatc:c.at'<T.nb)(hl:e.length<=maxLen)(hf:rA w ead e)(hwf:∀x∈e,Atr.Wf x)(hA:kZ e=true->EvO A w ead e)(hm:Sm T s)(hlo:∀c∈cs,0<=c.lost/\c.lost<4611686018427387903)(hfr:∀h∈s.held c.at',h.fr=-1\/0<=h.fr)(hat:∀d∈cs,∀h∈s.held c.at',h.fr=-1->h.key.1=d.num->d.at'=c.at'):Calls prog 25 #[.pointer (some ⟨C.TB,0,none⟩),.int .i64 c.num,.slice ead e.length ecap] w fun x w'=>RwP A C T R (nA e) (rQ s c e cs) (yV T s c e) w x w':=by
 have HW:=hZ hW;have CM:Hid (kZ e=true->∀W,Gr w W->Calls prog 54 #[.pointer (some ⟨C.TB,0,none⟩),.int .i64 c.at',.int .i64 (-1),.int .i64 c.num,.slice ead e.length ecap] W fun x w'=>x=.returned (.tuple #[])/\∃R',Rw A C T R' w' (cs.map (jA mat (s.held c.at') (true,c.num) e)) (s.come T.adj mat c.at' (-1) e)/\Fr R R' W w'):=fun hok W g=>Sb A C T R W cs s c.at' (-1) c.num (true,c.num) e ead ecap (hW.gr g) hatc ((hA hok).keep g.size (fun k hk _=>g.block k hk)) hm hcl hlo hfr (fun d hd=>by
  constructor
  ·intro h1 h2;exact h1 (by rw[h2.2])
  ·intro h1 h2;injection h2 with _ h2;exact h1 ⟨by decide,h2⟩) hat
 obtain⟨ads,Xs,lv,Ls,cv,rc,rt,hnb,rv,hcs⟩:=hW;have hrl:rc.length<=16:=by have:=congrArg List.length hcs;rw[aB] at this;omega
 obtain⟨ca,cc,rfl⟩:=rt.k.cl.shape;have CL:=hZ (jU C.TB ca cc rc c.num w rt.c2 rt.k.cl.rowAt hrl);have CK:=hZ (fun W (g:Gr w W)=>vS e ead ecap W hl (hf.gr g) hwf);have HJ:Hid (∀j,j<rc.length->(kat rc j).num=c.num->(kat rc j).at'=c.at'):=fun j hj hn=>by
  have hm1:pcR (kat rc j)∈cs:=by rw[<-hcs];exact aQ (kE hj)
  have e:pcR (kat rc j)=c:=by
   refine cO fun hne=>?_;obtain⟨i1,h1,e1⟩:=bG hm1;obtain⟨i2,h2,e2⟩:=bG hc;have pw:=bZ.1 huni;have hn':(pcR (kat rc j)).num=c.num:=hn;rcases eC i1 i2 with hlt|hlt|hlt
   ·exact pw i1 i2 h1 h2 hlt (by rw[e1,e2];exact hn')
   ·subst hlt;exact hne (e1.symm.trans e2)
   ·exact pw i2 i1 h2 h1 hlt (by rw[e1,e2];exact hn'.symm)
  rw[<-e];rfl
 have HIN:Hid (¬∀x∈rc,x.num≠c.num):=fun h=>by rw[<-hcs] at hc;obtain⟨x,hx,rfl⟩:=aC.1 hc;exact h x hx rfl
 have HCL:Hid (∀j,j<rc.length->∀W,Gr w W->∃g off,ca=some ⟨g,off,none⟩/\W.cell? ⟨C.TB,2,none⟩=some (.slice ca rc.length cc)/\W.cell? ⟨g,off+j*4+1,none⟩=some (.int .i64 ((kat rc j).at':Int))):=fun j hj W g=>by obtain⟨q,off,e0,_,_,d1,_⟩:=(rt.gr g).k.cl.rowAt.clt hj;exact⟨q,off,e0,(rt.gr g).c2,d1⟩
 clear rt rv hcs hm hlo hA hfr hat hc huni hf hwf;go_enter func25,ntmps25;go_wp2_with fail;refine CL.mono ?_;rintro e1 w1 ⟨hcase,hw⟩;subst hw;rcases hcase with⟨j,hj,hk,rfl⟩|⟨hno,rfl⟩
 ·have HAT:=hZ (HJ j hj hk);have CK1:=hZ (CK _ gZ);clear CL CK hk HJ HIN;go_wp2_with fail;refine CK1.mono ?_;rintro e1 w2 ⟨rfl,g2⟩;have G2:=hZ g2;clear CK1 g2;cases hok:kZ e with
  |false=>
   (have hchk:oB e=1:=by simp[oB,hok]);have HSC:Hid (nA e=1):=by show _=_;simp[nA,hok]
   rw[hchk];go_wp2_with fail;go_ret;refine⟨by rw[HSC.out];rfl,R,?_,Fr.gr G2.out⟩;rw[show rQ s c e cs=cs by simp[rQ,hok],show yV T s c e=s by simp[yV,hok]];exact HW.gr G2.out
  |true=>
   (have hchk:oB e=0:=by simp[oB,hok]);have HSC:Hid (nA e=0):=by show _=_;simp[nA,hok]
   rw[hchk];obtain⟨q,off,e0,t2,d1⟩:=HCL j hj w2 G2.out;rw[HAT.out] at d1;subst e0;have CM1:=hZ (CM hok w2 G2.out);clear CM HCL HAT;go_wp2_with fail;refine CM1.mono ?_;rintro e1 w3 ⟨rfl,R',q1,q2⟩;have Q1:=hZ q1;have Q2:=hZ ((Fr.gr G2.out).trans q2);clear CM1 q1 q2 t2 d1;go_wp2_with fail;go_ret;refine⟨by rw[HSC.out];rfl,R',?_,Q2.out⟩;rw[show rQ s c e cs=_ by simp only[rQ,hok,if_true];rfl,show yV T s c e=_ by simp only[yV,hok,if_true];rfl];exact Q1.out
 ·exact absurd hno HIN.out
theorem Ep(T:Tc)(r:Nat->Rl)(w:World)(cls:List Cl)(s:Ts)(c:Int)(v:Value)(hT:Tw T r w cls s)(hc:I64 c)(hn:∀x∈cls,x.num≠c):Calls prog 23 #[.pointer (some ⟨T.TB,0,none⟩),.int .i64 c,v] w fun e w'=>e=.returned (.int .i64 5)/\Gr w w':=by obtain⟨Xs,qs,hT1,hV⟩:=hT;have hlu:=hT1.k.findNo hc hn;have c1:=hT1.b.c1;clear hT1 hV hn;go_enter func23,ntmps23;go_wp2_with fail;go_ret;exact⟨rfl,gZ⟩
theorem Kw(T:Tc)(r:Nat->Rl)(w:World)(cls:List Cl)(s:Ts)(c:Int)(hT:Tw T r w cls s)(hc:I64 c)(hn:∀x∈cls,x.num≠c):Calls prog 58 #[.pointer (some ⟨T.TB,0,none⟩),.int .i64 c] w fun e w'=>e=.returned (.tuple #[.slice none 0 0,.int .i64 0,.int .i64 5])/\Gr w w':=by
 obtain⟨Xs,qs,hT1,hV⟩:=hT;have hlu:=hT1.k.findNo hc hn;have c1:=hT1.b.c1;clear hT1 hV hn;go_enter func58,ntmps58;go_wp2_with fail
 go_ret3
 exact⟨rfl,gZ⟩
theorem Is(T:Tc)(r:Nat->Rl)(w:World)(cls:List Cl)(s:Ts)(x:Cl)(e:List Atr)(ad:Option Addr)(cap:Nat)(hT:Tw T r w cls s)(hx:x∈cls)(hl:e.length<=maxLen)(hf:rA w ad e)(hwf:∀y∈e,Atr.Wf y)(hok:kZ e=false):Calls prog 23 #[.pointer (some ⟨T.TB,0,none⟩),.int .i64 x.num,.slice ad e.length cap] w fun e w'=>e=.returned (.int .i64 1)/\Gr w w':=by obtain⟨Xs,qs,hT1,hV⟩:=hT;have hlu:=hT1.k.find hx;have c1:=hT1.b.c1;have CK:=hZ (lR e ad cap w hl hf hwf);rw[show oB e=1 by simp[oB,hok]] at CK;clear hT1 hV hf;go_enter func23,ntmps23;go_wp2_with fail;refine CK.mono ?_;rintro e w1 ⟨rfl,g1⟩;have G1:=hZ g1;clear CK g1 hlu c1;go_wp2_with fail;go_ret;exact⟨rfl,G1.out⟩
structure EvC(A:Nat->Prop)(w:World)(ad:Option Addr)(f:List Atr):Prop where
 wf:∀x∈f,Atr.Wf x
 len:f.length<=2932031007402
 at':f=[]\/∃b off,ad=some ⟨b,off,none⟩/\A b/\b<w.heap.size/\iP w b off f
section
variable {A:Nat->Prop}{w w':World}{ad:Option Addr}{f:List Atr}
theorem EvC.keep(h:EvC A w ad f)(hs:w.heap.size<=w'.heap.size)(hk:∀k,k<w.heap.size->A k->w'.heap[k]?=w.heap[k]?):EvC A w' ad f:=⟨h.wf,h.len,h.at'.imp id (fun⟨b,off,e,h1,h2,h3⟩=>⟨b,off,e,h1,aF h2 hs,h3.blk (hk b h2 h1)⟩)⟩
theorem EvC.gr(h:EvC A w ad f)(g:Gr w w'):EvC A w' ad f:=h.keep g.size (fun k hk _=>g.block k hk)
theorem EvC.ev(h:EvC A w ad f):rA w ad f:=by
 rcases h.at' with e|⟨b,off,e,_,hl,hw⟩
 ·exact Or.inl e
 ·exact Or.inr ⟨b,off,e,hl,hw⟩
theorem Mv(h:kZ f=true):f≠[]:=by rintro rfl;simp[kZ] at h
theorem EvC.eo(h:EvC A w ad f)(hok:kZ f=true):EvO A w ad f:=by
 rcases h.at' with e|⟨b,off,e,ha,hl,hw⟩
 ·exact absurd e (Mv hok)
 ·exact⟨⟨⟨b,off,e,hl,hw⟩,h.wf,hok⟩,b,off,e,ha⟩
def Ecp(b0:Nat)(w:World)(ad:Option Addr)(f:List Atr):Prop:=(f=[]/\ad=none)\/∃g,ad=some ⟨g,0,none⟩/\b0<=g/\g<w.heap.size/\iP w g 0 f
theorem Ecp.keep(h:Ecp b0 w ad f)(g:Kx (fun k=>k<b0) w w'):Ecp b0 w' ad f:=by
 rcases h with e|⟨q,e,h1,h2,h3⟩
 ·exact Or.inl e
 ·exact Or.inr ⟨q,e,h1,aF h2 g.size,h3.blk (g.keep q h2 (by omega))⟩
theorem Ecp.low{b1:Nat}(h:Ecp b1 w ad f)(hb:b0<=b1):Ecp b0 w ad f:=by
 rcases h with e|⟨q,e,h1,h2,h3⟩
 ·exact Or.inl e
 ·exact Or.inr ⟨q,e,aA hb h1,h2,h3⟩
theorem Ecp.ev(h:Ecp b0 w ad f):rA w ad f:=by
 rcases h with e|⟨q,e,h1,h2,h3⟩
 ·exact Or.inl e.1
 ·exact Or.inr ⟨q,0,e,h2,h3⟩
theorem Ecp.em(h:Ecp b0 w ad f)(hwf:∀x∈f,Atr.Wf x)(hok:kZ f=true):EvM w ad f:=by
 rcases h with e|⟨q,e,h1,h2,h3⟩
 ·exact absurd e.1 (Mv hok)
 ·exact⟨⟨q,0,e,h2,h3⟩,hwf,hok⟩
end
section
variable {A:Nat->Prop}{T:Tc}{C:Rc}{r R:Nat->Rl}{LB PB BB:Nat}{B D:Nat->Prop}{L M:Nat}{w:World}{cs:List (Pc (List Atr))}{s:Ts}
theorem St.copyE(h:St A T C r R LB PB BB B D L M w cs s)(hM:M<=1099511627776)(f:List Atr)(ad:Option Addr)(cap:Nat)(hf:EvC A w ad f):Calls prog 24 #[.pointer (some ⟨LB,0,none⟩),.slice ad f.length cap] w fun e w'=>∃ad' cap',e=.returned (.slice ad' f.length cap')/\Ecp w.heap.size w' ad' f/\CpS A T C r R LB PB BB B D L M w cs s w':=by
 by_cases hne:f=[]
 ·subst hne;refine(Kd ad cap _ w).mono ?_;rintro e w' ⟨he,hw⟩;rw[hw];exact⟨none,0,he,Or.inl ⟨rfl,rfl⟩,D,fun _ _ e=>e,Kx.gr (Gr.refl w),h.copied (Kx.gr (Gr.refl w)) (h.le.up (cD _)) (fun _ _ e=>e)⟩
 ·refine(h.le.event hM f ad cap hne hf.len (hf.at'.resolve_left hne) hf.wf).mono ?_;rintro e w' ⟨g,he,h1,h2,h3,h4,h5⟩;exact⟨_,_,he,Or.inr ⟨g,rfl,h1,h2,h3⟩,_,fun k hk hd=>Bn.old hk hd,h5,h.copied h5 h4 (fun k hk hd=>Bn.old hk hd)⟩
end
def Za(A:Nat->Prop)(T:Tc)(C:Rc)(r R:Nat->Rl)(cs:List (Pc (List Atr)))(s:Ts)(a:Int)(f:List Atr)(fad:Option Addr)(fc:Nat)(Ch:List (Pc (List Atr))->Ts->Prop):Prop:=∃(code:Int)(cs':List (Pc (List Atr)))(s':Ts),Ch cs' s'/\(∀W b0 ad cap,Tf T r W cs s->Ecp b0 W ad f->Calls prog 23 #[.pointer (some ⟨T.TB,0,none⟩),.int .i64 a,.slice ad f.length cap] W fun e w'=>TfP T r code cs' s' W e w') /\∀W,Rw A C T R W cs s->EvC A W fad f->Calls prog 25 #[.pointer (some ⟨C.TB,0,none⟩),.int .i64 a,.slice fad f.length fc] W fun e w'=>RwP A C T R code cs' s' W e w'
section
variable {A:Nat->Prop}{T:Tc}{C:Rc}{r R:Nat->Rl}{cs:List (Pc (List Atr))}{s:Ts}
theorem Sc{rank:Nat->Nat->Nat}{Ks:List Ky}{n:Nat}(H:Chm T home cs)(S:Sh T nxt rank)(G:Gd T nxt rank home Ks s cs n M)(hK:Ks.length<=1048576)(hM:M<549755813888)(huni:cs.Pairwise fun x y=>x.num≠y.num)(a:Int)(ha:I64 a)(f:List Atr)(fad:Option Addr)(fc:Nat)(hwf:∀x∈f,Atr.Wf x)(hl:f.length<=maxLen):Za A T C r R cs s a f fad fc (fun cs' s'=>(cs'=cs/\s'=s)\/∃c∈cs,c.num=a/\cs'=cs.map (jA mat (s.held c.at') (true,c.num) f)/\s'=s.come T.adj mat c.at' (-1) f):=by
 have hm:=G.sm S hK hM;by_cases hc:∃c∈cs,c.num=a
 ·obtain⟨c,hc,rfl⟩:=hc;refine⟨nA f,rQ s c f cs,yV T s c f,?_,fun W b0 ad cap hT hE=>?_,fun W hW hE=>?_⟩
  ·cases hok:kZ f with
   |false=>exact Or.inl ⟨by simp[rQ,hok],by simp[yV,hok]⟩
   |true=>exact Or.inr ⟨c,hc,rfl,by simp only[rQ,hok,if_true],by simp only[yV,hok,if_true]⟩
  ·cases hok:kZ f with
   |false=>rw[show rQ s c f cs=cs by simp[rQ,hok],show yV T s c f=s by simp[yV,hok],show nA f=1 by simp[nA,hok]];obtain⟨cls,x,h1,rfl,hx,rfl⟩:=hT.find hc;exact(Is T r W cls s x f ad cap h1 hx hl hE.ev hwf hok).mono (fun e w' he=>TfP.none' ⟨cls,h1,rfl⟩ he)
   |true=>rw[show nA f=0 by simp[nA,hok]];simp only[rQ,yV,hok,if_true];exact Qd T r W cs s c f ad cap hT hc (hE.em hwf hok) hm (G.lo hM)
  ·exact Zk A C T R W cs s c f fad fc hW hc huni H.1 (H.2 c hc).2 hl hE.ev hwf hE.eo hm (G.lo hM) (G.fr0 S c.at') (G.at0 S H (H.2 c hc).2)
 ·have hne:∀c∈cs,c.num≠a:=fun c h1 e=>hc ⟨c,h1,e⟩;refine⟨5,cs,s,Or.inl ⟨rfl,rfl⟩,fun W b0 ad cap hT _=>?_,fun W hW _=>?_⟩
  ·obtain⟨cls,hT,hcs⟩:=hT;exact(Ep T r W cls s a _ hT ha (fun x hx e=>hne (jH x) (by rw[<-hcs];exact aQ hx) e)).mono (fun e w' he=>TfP.none' ⟨cls,hT,hcs⟩ he)
  ·obtain⟨ads,Xs,lv,Ls,cv,rs,rt,hnb,rv,hr⟩:=hW;obtain⟨ca,cc,rfl⟩:=rt.k.cl.shape;(have hrl:rs.length<=16:=by rw[<-aB (f:=pcR),hr];exact H.1);refine(Oc C.TB ca cc rs W a _ rt.c2 rt.k.cl.rowAt hrl (fun d hd e=>hne (pcR d) (by rw[<-hr];exact aQ hd) e)).mono ?_;rintro e w' ⟨he,rfl⟩;exact⟨he,R,⟨ads,Xs,lv,Ls,_,rs,rt,hnb,rv,hr⟩,Fr.refl _ _⟩
end
section
variable {A:Nat->Prop}{T:Tc}{C:Rc}{r R:Nat->Rl}{w:World}{cs:List (Pc (List Atr))}{s:Ts}
theorem Qx(hm:Sm T s)(hsr:∀b,b<T.nb->Srt (s.held b))(huni:cs.Pairwise fun x y=>x.num≠y.num)(hcl:cs.length<=16)(hat:∀c∈cs,c.at'<T.nb)(a b:Int)(ha:I64 a)(hb:I64 b)(f:List Wnt)(fad:Option Addr)(fc:Nat)(hwf:∀y∈f,Wnt.Wf y)(hl:f.length<=maxLen)(hfr:∀b,b<T.nb->∀x∈s.held b,x.fr=-1\/0<=x.fr)(hm':∀c∈cs,c.num=a->(ins ⟨(c.num,b),f, -1⟩ (s.held c.at')).length<=1048576):Zb A T C r R w cs s a b f fad fc (fun cs' s'=>cs'=cs/\(s'=s\/∃c∈cs,c.num=a/\gN f=true/\lJ (s.held c.at') (a,b)=false/\s'=s.turn cov T.adj c.at' (ins ⟨(a,b),f, -1⟩ (s.held c.at')))):=by
 by_cases hc:∃c∈cs,c.num=a
 ·obtain⟨c,hc,rfl⟩:=hc;refine⟨iT T s c.at' (c.num,b) f,cs,_,⟨rfl,?_⟩,fun W b0 ad cap hW hcp=>Qw hW hm hsr c hc b hb f ad cap hl hcp.fi hwf (by rfl) (fun hok=>hcp.fm hwf hok),fun W hW hC=>Vz hW hm hsr c hc huni hcl (hat c hc) b f fad fc hl hC.fi hwf (fun hok=>hC.fo hok) (hm' c hc rfl) hfr⟩;by_cases e:iT T s c.at' (c.num,b) f=0
  ·rw[if_pos e];refine Or.inr ⟨c,hc,rfl,?_,?_,rfl⟩
   ·unfold iT at e;by_cases h1:gN f=true
    ·exact h1
    ·rw[if_neg h1] at e;cases e
   ·unfold iT at e;by_cases h1:gN f=true
    ·rw[if_pos h1] at e;cases h2:lJ (s.held c.at') (c.num,b) with
     |false=>rfl
     |true=>rw[h2,if_pos rfl] at e;cases e
    ·rw[if_neg h1] at e;cases e
  ·rw[if_neg e];exact Or.inl rfl
 ·have hne:∀c∈cs,c.num≠a:=fun c h1 e=>hc ⟨c,h1,e⟩;refine⟨5,cs,s,⟨rfl,Or.inl rfl⟩,fun W b0 ad cap hW hcp=>?_,fun W hW hC=>?_⟩
  ·obtain⟨cls,hT,hcs⟩:=hW;exact(Ah T r W cls s a b _ hT ha (fun x hx e=>hne (jH x) (by rw[<-hcs];exact aQ hx) e)).mono (fun e w' he=>TfP.none' ⟨cls,hT,hcs⟩ he)
  ·obtain⟨ads,Xs,lv,Ls,cv,rs,rt,hnb,rv,hr⟩:=hW;obtain⟨ca,cc,rfl⟩:=rt.k.cl.shape;(have hrl:rs.length<=16:=by rw[<-aB (f:=pcR),hr];exact hcl);refine(Ob C.TB ca cc rs W a b _ rt.c2 rt.k.cl.rowAt hrl (fun d hd e=>hne (pcR d) (by rw[<-hr];exact aQ hd) e)).mono ?_;rintro e w' ⟨he,rfl⟩;exact⟨he,R,⟨ads,Xs,lv,Ls,_,rs,rt,hnb,rv,hr⟩,Fr.refl _ _⟩
theorem Eh(h:Tf T r w cs s)(hq:Rw A C T R w cs s)(n b:Int)(hn:I64 n)(hl:cs.length<=16):Cx A T C r R w cs s 16 17 n b (fun cs' s'=>s'=s/\(cs'=cs\/∃b':Nat,b'<T.nb/\(∀c∈cs,c.num≠n)/\cs.length<16/\cs'=cs++[⟨n,b',0,[]⟩])):=by obtain⟨code,cs',h1,h2,h3⟩:=Ie h hq n b hn hl;refine⟨code,cs',s,⟨rfl,h1.imp id ?_⟩,h2,h3⟩;rintro⟨b',_,k1,k2,k3,k4⟩;exact⟨b',k1,k2,k3,k4⟩
end
theorem Zd{q:List (Ms F E)}{Q:Rl' F}(h:wf q Q){k:Ky}(hk:(Ms.uns k:Ms F E)∈q):(∃f,Q k f)\/∃f,(Ms.sub k f:Ms F E)∈q:=by
 induction q generalizing Q with
 |nil=>cases hk
 |cons m q ih=>
  cases m with
  |sub k' f'=>
   rcases aN.1 hk with e|hk
   ·cases e
   ·rcases ih h.2 hk with⟨f,hf⟩|⟨f,hf⟩
    ·rcases hf with⟨rfl,rfl⟩|⟨_,hf⟩
     ·exact Or.inr ⟨_,bC⟩
     ·exact Or.inl ⟨f,hf⟩
    ·exact Or.inr ⟨f,bE _ hf⟩
  |uns k'=>
   rcases aN.1 hk with e|hk
   ·injection e with e;subst e;exact Or.inl h.1
   ·rcases ih h.2 hk with⟨f,hf⟩|⟨f,hf⟩
    ·exact Or.inl ⟨f,hf.2⟩
    ·exact Or.inr ⟨f,bE _ hf⟩
  |ev e=>
   rcases aN.1 hk with e|hk
   ·cases e
   ·rcases ih h hk with hf|⟨f,hf⟩
    ·exact Or.inl hf
    ·exact Or.inr ⟨f,bE _ hf⟩
theorem Inv.rehome{cov:F->F->Bool}{adj:Nat->Nat->Bool}{home':Int->Nat}{ok:F->Prop}{s:TS F E}(I:Inv cov adj nxt home ok s)(K:Kin K2 s)(h:∀k∈K2,home' k.1=home k.1):Inv cov adj nxt home' ok s:=by
 refine⟨I.srt,fun b x hx=>?_,I.hok,fun a b k f hk=>?_,fun a b k hk=>?_,I.nq,I.ag,I.al⟩
 ·rw[h _ (K.held b x hx)];exact I.rt b x hx
 ·rw[h _ (K.q a b k f hk)];exact I.qs a b k f hk
 ·have hin:k∈K2:=by
   cases hab:adj a b with
   |false=>rw[I.nq a b hab] at hk;cases hk
   |true=>
    rcases Zd (I.al a b hab) hk with⟨f,g,hg,_,rfl,_⟩|⟨f,hf⟩
    ·exact K.held b g hg
    ·exact K.q a b k f hf
  rw[h _ hin];exact I.qu a b k hk
structure Wl(T:Tc)(nxt:Nat->Nat->Int)(rank:Nat->Nat->Nat)(Ks:List Ky)(cs:List (Pc (List Atr)))(s:Ts)(M:Nat):Prop where
 gd:∃home n K2,Gd T nxt rank home Ks s cs n M/\(∀c∈cs,home c.num=c.at')/\Kin K2 s/\∀k∈K2,∃c∈cs,c.num=k.1
 at':∀c∈cs,c.at'<T.nb
 un:cs.Pairwise fun x y=>x.num≠y.num
 le:cs.length<=16
section
variable {T:Tc}{nxt:Nat->Nat->Int}{rank:Nat->Nat->Nat}{Ks:List Ky}{cs:List (Pc (List Atr))}{s:Ts}{M:Nat}
theorem Wl.up(h:Wl T nxt rank Ks cs s M)(hM:M<=M'):Wl T nxt rank Ks cs s M':=by obtain⟨home,n,K2,g,h1,h2,h3⟩:=h.gd;exact⟨⟨home,n,K2,g.mono lZ (by omega) (by have:=g.le;omega),h1,h2,h3⟩,h.at',h.un,h.le⟩
theorem Wl.srt(h:Wl T nxt rank Ks cs s M):∀b,b<T.nb->Srt (s.held b):=by obtain⟨home,n,K2,g,_⟩:=h.gd;exact fun b _=>g.I.srt b
theorem Wl.sm(h:Wl T nxt rank Ks cs s M)(S:Sh T nxt rank)(hK:Ks.length<=1048576)(hM:M<549755813888):Sm T s:=by obtain⟨home,n,K2,g,_⟩:=h.gd;exact g.sm S hK hM
theorem Wl.fr(h:Wl T nxt rank Ks cs s M)(S:Sh T nxt rank):∀b,b<T.nb->∀x∈s.held b,x.fr=-1\/0<=x.fr:=by
 obtain⟨home,n,K2,g,_⟩:=h.gd;intro b _ x hx;rw[g.I.rt b x hx];rcases S.R.nb b (home x.key.1) with e|⟨m,e,_⟩
 ·exact Or.inl e
 ·exact Or.inr (by rw[e];omega)
theorem Wl.insLen(h:Wl T nxt rank Ks cs s M)(hK:Ks.length<=1048576)(a b:Int)(f:List Wnt)(hk:(a,b)∈Ks):∀c∈cs,c.num=a->(ins ⟨(c.num,b),f, -1⟩ (s.held c.at')).length<=1048576:=by
 obtain⟨home,n,K2,g,_⟩:=h.gd;rintro c hc rfl;refine aA (Srt.len (Srt.ins (g.I.srt c.at') _) (fun x hx=>?_)) hK;rcases iU.1 hx with rfl|⟨hx,_⟩
 ·exact hk
 ·exact g.K.held _ x hx
theorem Wl.start:Wl T nxt rank Ks [] (TS.none (List Wnt) (List Atr)) 0:=⟨⟨fun _=>0,0,[],⟨Sk,⟨(fun b h hm=>by cases hm),(fun a b k f hm=>by cases hm)⟩,Ql,(fun c hc=>by cases hc),lZ⟩,(fun c hc=>by cases hc),⟨(fun b h hm=>by cases hm),(fun a b k f hm=>by cases hm)⟩,(fun k hk=>by cases hk)⟩,(fun c hc=>by cases hc),List.Pairwise.nil,zZ⟩
theorem Wl.attach(h:Wl T nxt rank Ks cs s M){n:Int}{b':Nat}(hb:b'<T.nb)(hn:∀c∈cs,c.num≠n)(hl:cs.length<16):Wl T nxt rank Ks (cs++[⟨n,b',0,[]⟩]) s M:=by
 obtain⟨home,m,K2,g,h1,h2,h3⟩:=h.gd;have hne:∀k∈K2,k.1≠n:=fun k hk e=>by obtain⟨c,hc,e'⟩:=h3 k hk;exact hn c hc (e'.trans e)
 refine⟨⟨fun i=>if i=n then b' else home i,m,K2,⟨g.I.rehome h2 (fun k hk=>by simp only[if_neg (hne k hk)]),g.K,g.W,fun c hc=>?_,g.le⟩,fun c hc=>?_,h2,fun k hk=>?_⟩,fun c hc=>?_,?_,by simp;omega⟩
 ·rcases aE.1 hc with hc|hc
  ·exact g.L c hc
  ·simp only[aM] at hc;subst hc;exact⟨Int.le_refl _,by have:=g.le;simp;exact this,by simp⟩
 ·rcases aE.1 hc with hc|hc
  ·simp only[if_neg (hn c hc)];exact h1 c hc
  ·simp only[aM] at hc;subst hc;simp
 ·obtain⟨c,hc,e⟩:=h3 k hk;exact⟨c,List.mem_append_left _ hc,e⟩
 ·rcases aE.1 hc with hc|hc
  ·exact h.at' c hc
  ·simp only[aM] at hc;subst hc;exact hb
 ·rw[eR];refine⟨h.un,by simp,fun c hc d hd=>?_⟩;simp only[aM] at hd;subst hd;exact hn c hc
theorem Wl.sub(h:Wl T nxt rank Ks cs s M)(S:Sh T nxt rank)(hnb:T.nb<=8)(hc:c∈cs){b:Int}{f:List Wnt}(hok:gN f=true)(hwf:∀x∈f,Wnt.Wf x)(hn:lJ (s.held c.at') (c.num,b)=false)(hk:(c.num,b)∈Ks):Wl T nxt rank Ks cs (s.turn cov T.adj c.at' (ins ⟨(c.num,b),f, -1⟩ (s.held c.at'))) (M+8*(Ks.length+1)):=by
 obtain⟨home,n,K2,g,h1,h2,h3⟩:=h.gd;have eh:=h1 c hc;have hn':∀x∈s.held (home c.num),x.key≠(c.num,b):=fun x hx e=>by rw[eh] at hx;have:lJ (s.held c.at') (c.num,b)=true:=rZ.2 ⟨x,hx,e⟩;rw[this] at hn;cases hn
 have g2:=g.sub S (c.num,b) f ⟨hok,hwf⟩ (by show home c.num<_;rw[eh];exact h.at' c hc) hn' hk;simp only at g2;rw[eh] at g2;have hmul:T.nb*(Ks.length+1)<=8*(Ks.length+1):=bJ _ hnb;refine⟨⟨home,_,(c.num,b)::K2,g2.mono lZ (by omega) (by have:=g.le;omega),h1,?_,fun k hk'=>?_⟩,h.at',h.un,h.le⟩
 ·refine pX ⟨fun b x hx=>bE _ (h2.held b x hx),fun a b k f hk=>bE _ (h2.q a b k f hk)⟩ (fun x hx=>?_);rcases iU.1 hx with rfl|⟨hx,_⟩
  ·exact bC
  ·exact bE _ (h2.held _ x hx)
 ·rcases aN.1 hk' with rfl|hk'
  ·exact⟨c,hc,rfl⟩
  ·exact h3 k hk'
theorem Wl.uns(h:Wl T nxt rank Ks cs s M)(S:Sh T nxt rank)(hnb:T.nb<=8)(hc:c∈cs){b:Int}(hk:lJ (s.held c.at') (c.num,b)=true):Wl T nxt rank Ks cs (s.turn cov T.adj c.at' (del (c.num,b) (s.held c.at'))) (M+8*(Ks.length+1)):=by
 obtain⟨home,n,K2,g,h1,h2,h3⟩:=h.gd;have eh:=h1 c hc;obtain⟨x,hx,ex⟩:=rZ.1 hk;have eh2:home x.key.1=c.at':=by rw[ex];exact eh
 have g2:=g.uns S (x:=x) (by rw[eh2];exact h.at' c hc) (by rw[eh2];exact hx);rw[eh2,ex] at g2;have hmul:T.nb*(Ks.length+1)<=8*(Ks.length+1):=bJ _ hnb;exact⟨⟨home,_,K2,g2.mono lZ (by omega) (by have:=g.le;omega),h1,pX h2 (fun y hy=>h2.held _ y (jO.1 hy).1),h3⟩,h.at',h.un,h.le⟩
theorem Zz{cs:List (Pc (List Atr))}(e:ids cs'=ids cs):(∀c'∈cs',∃c∈cs,c.num=c'.num/\c.at'=c'.at')/\(cs.Pairwise (fun x y=>x.num≠y.num)->cs'.Pairwise fun x y=>x.num≠y.num)/\cs'.length=cs.length:=by
 refine⟨fun c' hc=>?_,fun hp=>?_,?_⟩
 ·have h1:(c'.num,c'.at')∈ids cs:=by rw[<-e];exact aC.2 ⟨c',hc,rfl⟩
  obtain⟨c,h2,h3⟩:=aC.1 h1;injection h3 with h3 h4;exact⟨c,h2,h3,h4⟩
 ·have h1:(ids cs).Pairwise fun x y=>x.1≠y.1:=cB.2 hp;rw[<-e] at h1;exact(cB (f:=fun c:Pc (List Atr)=>(c.num,c.at')) (R:=fun x y=>x.1≠y.1)).1 h1
 ·have:=congrArg List.length e;simpa[ids] using this
theorem Wl.of{n':Nat}(h:Wl T nxt rank Ks cs s M)(h1:∀c∈cs,home c.num=c.at')(h2:Kin K2 s')(h3:∀k∈K2,∃c∈cs,c.num=k.1)(e:ids cs'=ids cs)(g':Gd T nxt rank home Ks s' cs' n' M'):Wl T nxt rank Ks cs' s' M':=by
 obtain⟨i1,i2,i3⟩:=Zz e;refine⟨⟨home,n',K2,g',fun c' hc=>?_,h2,fun k hk=>?_⟩,fun c' hc=>?_,i2 h.un,by rw[i3];exact h.le⟩
 ·obtain⟨c,hc,e1,e2⟩:=i1 c' hc;rw[<-e1,<-e2];exact h1 c hc
 ·obtain⟨c,hc,e1⟩:=h3 k hk;have h4:(c.num,c.at')∈ids cs':=by rw[e];exact aC.2 ⟨c,hc,rfl⟩
  obtain⟨d,hd,h5⟩:=aC.1 h4;injection h5 with h5 _;exact⟨d,hd,h5.trans e1⟩
 ·obtain⟨c,hc,_,e2⟩:=i1 c' hc;rw[<-e2];exact h.at' c hc
theorem Wl.same(h:Wl T nxt rank Ks cs s M)(e:ids cs'=ids cs)(hg:∀home n,Gd T nxt rank home Ks s cs n M->(∀c∈cs,home c.num=c.at')->(∀K2,Kin K2 s->Kin K2 s')/\∃n',Gd T nxt rank home Ks s' cs' n' M'):Wl T nxt rank Ks cs' s' M':=by obtain⟨home,n,K2,g,h1,h2,h3⟩:=h.gd;obtain⟨k,n',g'⟩:=hg home n g h1;exact h.of h1 (k K2 h2) h3 e g'
theorem Wl.chm(h:Wl T nxt rank Ks cs s M)(hh:∀c∈cs,home c.num=c.at'):Chm T home cs:=⟨h.le,fun c hc=>⟨hh c hc,h.at' c hc⟩⟩
theorem Wl.box(h:Wl T nxt rank Ks cs s M):∀c∈cs,c.box.length<=16:=by obtain⟨home,n,K2,g,_⟩:=h.gd;exact fun c hc=>(g.L c hc).2.2
theorem Wl.clr(h:Wl T nxt rank Ks cs s M)(n:Int):Wl T nxt rank Ks (cs.map (mW n)) s M:=h.same Mg (fun _ n' g _=>⟨fun _ k=>k,n',aAB g n⟩)
theorem Wl.pub(h:Wl T nxt rank Ks cs s M)(S:Sh T nxt rank)(hnb:T.nb<=8)(hc:c∈cs)(e:List Atr)(hk:0<Ks.length):Wl T nxt rank Ks (cs.map (jA mat (s.held c.at') (true,c.num) e)) (s.come T.adj mat c.at' (-1) e) (M+8*(Ks.length+1)):=by
 refine h.same ?_ (fun home n g _=>⟨fun K2 hk2=>⟨hk2.held,fun x y k f hm=>hk2.q x y k f ?_⟩,_,(g.pub S c.at' (h.at' c hc) (-1) (true,c.num) e).mono lZ (by omega) (by have:=g.le;omega)⟩)
 ·unfold ids;rw[bV];refine cC fun d _=>?_;show((jA mat (s.held c.at') (true,c.num) e d).num,_)=_;unfold jA;split
  ·unfold Pc.hear;split<;>rfl
  ·rfl
 ·simp only[TS.come] at hm;split at hm
  ·simpa using hm
  ·exact hm
end
def RsS(PB TB LB OB:Nat)(a b:Int)(fad:Option Addr)(fn fc:Nat)(f:List Wnt)(code:Int)(j:Nat)(x:Value)(W:World):Prop:=
 match j with
 |0=>x=.pointer (some ⟨PB,0,none⟩)
 |1=>x=.pointer (some ⟨PB,0,none⟩)
 |2=>x=.pointer (some ⟨PB,0,none⟩)
 |3=>x=.pointer (some ⟨TB,0,none⟩)
 |4=>x=.pointer (some ⟨OB,2,none⟩)
 |5=>x=.int .i64 a
 |6=>x=.pointer (some ⟨OB,3,none⟩)
 |7=>x=.int .i64 b
 |8=>x=.pointer (some ⟨PB,0,none⟩)
 |9=>x=.pointer (some ⟨PB,0,none⟩)
 |10=>x=.pointer (some ⟨PB,2,none⟩)
 |11=>x=.pointer (some ⟨LB,0,none⟩)
 |12=>x=.pointer (some ⟨OB,4,none⟩)
 |13=>x=.slice fad fn fc
 |14=>∃ad cap,x=.slice ad f.length cap/\Fcp OB W ad f
 |15=>x=.int .i64 code
 |_=>True
theorem RsS.st{TB LB:Nat}{a b:Int}{fad:Option Addr}{fc:Nat}{f:List Wnt}(j:Nat)(x:Value)(wa wb:World)(g:Kx (fun k=>k<OB) wa wb)(h:RsS PB TB LB OB a b fad fn fc f code j x wa):RsS PB TB LB OB a b fad fn fc f code j x wb:=by
 match j,h with
 |0,h=>exact h
 |1,h=>exact h
 |2,h=>exact h
 |3,h=>exact h
 |4,h=>exact h
 |5,h=>exact h
 |6,h=>exact h
 |7,h=>exact h
 |8,h=>exact h
 |9,h=>exact h
 |10,h=>exact h
 |11,h=>exact h
 |12,h=>exact h
 |13,h=>exact h
 |14,⟨ad,cap,h1,h2⟩=>exact⟨ad,cap,h1,h2.keep g⟩
 |15,h=>exact h
 |_+16,_=>trivial
def RsT(PB TB OB:Nat)(a b:Int)(fad:Option Addr)(fn fc:Nat)(code:Int)(j:Nat)(x:Value)(_:World):Prop:=
 match j with
 |0=>x=.int .i64 code
 |1=>x=.int .i64 code
 |2=>x=.pointer (some ⟨PB,0,none⟩)
 |3=>x=.pointer (some ⟨PB,0,none⟩)
 |4=>x=.pointer (some ⟨PB,1,none⟩)
 |5=>x=.pointer (some ⟨TB,0,none⟩)
 |6=>x=.pointer (some ⟨OB,2,none⟩)
 |7=>x=.int .i64 a
 |8=>x=.pointer (some ⟨OB,3,none⟩)
 |9=>x=.int .i64 b
 |10=>x=.pointer (some ⟨OB,4,none⟩)
 |11=>x=.slice fad fn fc
 |12=>x=.int .i64 code
 |13=>x=.bool true
 |_=>True
theorem RsT.st{TB:Nat}{a b:Int}{fad:Option Addr}{fc:Nat}(j:Nat)(x:Value)(wa wb:World)(h:RsT PB TB OB a b fad fn fc code j x wa):RsT PB TB OB a b fad fn fc code j x wb:=by
 match j,h with
 |0,h=>exact h
 |1,h=>exact h
 |2,h=>exact h
 |3,h=>exact h
 |4,h=>exact h
 |5,h=>exact h
 |6,h=>exact h
 |7,h=>exact h
 |8,h=>exact h
 |9,h=>exact h
 |10,h=>exact h
 |11,h=>exact h
 |12,h=>exact h
 |13,h=>exact h
 |_+14,_=>trivial
theorem St.step2{A:Nat->Prop}{T:Tc}{C:Rc}{r R:Nat->Rl}{LB BB:Nat}{B D:Nat->Prop}{L:Nat}{w:World}{cs:List (Pc (List Atr))}{s:Ts}(h:St A T C r R LB PB BB B D L M w cs s)(hM:M<=1099511627776)(wh a b:Int)(f:List Wnt)(fad:Option Addr)(fc:Nat)(hf:FiC A w fad f)(ead:Option Addr)(en ec:Nat){Ch:List (Pc (List Atr))->Ts->Prop}(hb:Zb A T C r R w cs s a b f fad fc Ch):Calls prog 9 #[.pointer (some ⟨PB,0,none⟩),lK wh 2 a b fad f.length fc ead en ec] w fun e w'=>Vf A T C r R LB PB BB B D L M Ch w e w':=by
 obtain⟨code,cs',s',hcs',HP,HR⟩:=hb;have HR':=hZ HR;have HP':=hZ HP;have tr:=h.pr.p.b.top;have lD:=h.le.lt;have aD:∀k,A k->¬D k:=fun k ha hd=>(h.sD k hd).2.2.1 ha;have CPY:Hid (∀W,Gr w W->Calls prog 19 #[.pointer (some ⟨LB,0,none⟩),.slice fad f.length fc] W fun e w'=>∃ad' cap',e=.returned (.slice ad' f.length cap')/\Fcp w.heap.size w' ad' f/\CpS A T C r R LB PB BB B D L M w cs s w'/\Kx D W w'):=fun W g=>((h.gr g).copy hM f fad fc (hf.gr g)).mono (fun e w' ⟨ad',cap',h1,h2,h3⟩=>⟨ad',cap',h1,h2.low g.size,h3.pre g,h3.choose_spec.2.1⟩);have KD:Hid (∀W W1,w.heap.size<W.heap.size->Kx D W W1->Kx (fun k=>k<w.heap.size) W W1):=fun W W1 _ k=>k.wide (fun q _ e=>lD q e);have KF:Hid (∀r1 W W1,Fr r r1 W W1->Kx (fun k=>k<w.heap.size) W W1):=fun r1 W W1 k=>k.kx.wide (fun q _ e=>dG.1 (fun c=>e (tr q (by omega))));have PBF:Hid (∀r1 W W1,Fr r r1 W W1->∀o,W.heap[PB]?=some o->W1.heap[PB]?=some o):=fun r1 W W1 k o ho=>(k.keep PB (fZ ho) (Or.inl h.pr.np.1)).trans ho;have PB0:=hZ h.pr.pb;have FCM:Hid (∀W,MdS A T C r R LB PB BB B D L M w cs s cs' s' W->FiC A W fad f/\Rw A C T R W cs s/\W.heap[PB]?=some (.cells #[.pointer (some ⟨T.TB,0,none⟩),.pointer (some ⟨C.TB,0,none⟩),.pointer (some ⟨LB,0,none⟩),.pointer (some ⟨BB,0,none⟩)] 55 (0,0))):=fun W ⟨r1,w1,h1,t1,f1⟩=>by obtain⟨D',i1,i2,i3⟩:=h1;have c1:=hf.keep i2.size (fun k hk ha=>i2.keep k hk (aD k ha));exact⟨c1.keep f1.size (fun k hk ha=>f1.keep k hk (Or.inl (h.pr.ar k ha))),i3.pr.mid f1,(f1.keep PB (fZ i3.pr.pb) (Or.inl i3.pr.np.1)).trans i3.pr.pb⟩
 have CTF:Hid (∀W,CpS A T C r R LB PB BB B D L M w cs s W->Tf T r W cs s):=fun W ⟨_,_,_,i3⟩=>i3.pr.p;have CPB:Hid (∀W,CpS A T C r R LB PB BB B D L M w cs s W->W.heap[PB]?=some (.cells #[.pointer (some ⟨T.TB,0,none⟩),.pointer (some ⟨C.TB,0,none⟩),.pointer (some ⟨LB,0,none⟩),.pointer (some ⟨BB,0,none⟩)] 55 (0,0))):=fun W h=>h.pb.1;have TPR:Hid (R w.heap.size=.no):=h.pr.q.top.1 _ lZ;have NPR:Hid (R PB=.no):=h.pr.np.2;have HC:=hZ hcs';clear h hM hf HP HR hcs' tr lD aD;unfold lK;go_enter func9,ntmps9;go_wp2_with fail;generalize hOb:(Obj.cells #[.int .i64 wh,.int .i64 2,.int .i64 a,.int .i64 b,.slice fad f.length fc,.slice ead en ec] 43)=ob;have HOB:Hid (ob=.cells #[.int .i64 wh,.int .i64 2,.int .i64 a,.int .i64 b,.slice fad f.length fc,.slice ead en ec] 43 (0,0)):=hOb.symm;clear hOb;have G0:=hZ ((Gr.refl w).alloc ob);have B0:Hid ((w.alloc ob).heap[w.heap.size]?=some ob):=fY _ _;generalize w.alloc ob=W0 at *;generalize hPo:(Obj.cells #[.pointer (some ⟨T.TB,0,none⟩),.pointer (some ⟨C.TB,0,none⟩),.pointer (some ⟨LB,0,none⟩),.pointer (some ⟨BB,0,none⟩)] 55 (0,0))=po at *;have HPO:=hZ hPo.symm;clear hPo;have WW:Hid (∀W:World,(W.heap[w.heap.size]?=some ob/\W.heap[PB]?=some po)->W.cell? ⟨PB,0,none⟩=some (.pointer (some ⟨T.TB,0,none⟩))/\W.cell? ⟨PB,1,none⟩=some (.pointer (some ⟨C.TB,0,none⟩))/\W.cell? ⟨PB,2,none⟩=some (.pointer (some ⟨LB,0,none⟩))/\W.cell? ⟨w.heap.size,2,none⟩=some (.int .i64 a)/\W.cell? ⟨w.heap.size,3,none⟩=some (.int .i64 b)/\W.cell? ⟨w.heap.size,4,none⟩=some (.slice fad f.length fc)):=fun W h=>by
  obtain⟨h1,h2⟩:=h;rw[HOB.out] at h1;rw[HPO.out] at h2;refine⟨?_,?_,?_,?_,?_,?_⟩
  ·rw[cZ h2];rfl
  ·rw[cZ h2];rfl
  ·rw[cZ h2];rfl
  ·rw[cZ h1];rfl
  ·rw[cZ h1];rfl
  ·rw[cZ h1];rfl
 refine yQ rfl 16 (by rfl) (fun i=>37+i) (fun i _ j _ h=>by omega) (RsS PB T.TB LB w.heap.size a b fad f.length fc f code) (Ef0 _ 37 16) (fun l W=>(W.heap[w.heap.size]?=some ob/\W.heap[PB]?=some po)/\(l 14=false->Gr w W)/\(l 14=true->l 15=false->CpS A T C r R LB PB BB B D L M w cs s W)/\(l 15=true->MdS A T C r R LB PB BB B D L M w cs s cs' s' W)) (fun i wa wb=>Kx (fun k=>k<w.heap.size) wa wb/\(i≠14->i≠15->wb=wa)/\(i=14->CpS A T C r R LB PB BB B D L M w cs s wb)/\(i=15->MdS A T C r R LB PB BB B D L M w cs s cs' s' wb/\wb.heap[PB]?=some po)) (fun a i x hi h=>Ef0.put (by simp) a i x hi h) (fun a h i hi=>by have:=h.sz (by simp);simp at this;omega) ?hw (fun i j x wa wb _ h g=>RsS.st j x wa wb g.1 h) ?front ?last (Ef0.start _ 37 16 (by simp)) ⟨⟨B0.out,gK G0.out PB0.out⟩,fun _=>G0.drew,(fun e=>by cases e),(fun e=>by cases e)⟩;case hw=>
  intro i l wa wb hi hli hcl hwt hW hg;have hob:wb.heap[w.heap.size]?=some ob:=(hg.1.keep _ (fZ hW.1.1) (by omega)).trans hW.1.1;by_cases h14:i=14
  ·subst h14;have l15:l 15=false:=by
    cases e15:l 15 with
    |false=>rfl
    |true=>have:=hcl 15 _ rfl e15 ⟨14,.data⟩ (by simp) rfl;simp only at this;rw[this] at hli;cases hli
   have hm:=hg.2.2.1 rfl;refine⟨⟨hob,CPB wb hm⟩,(fun e=>by simp[done] at e),fun _ _=>hm,fun e=>?_⟩;simp[done,l15] at e
  ·by_cases h15:i=15
   ·subst h15;have l14:l 14=true:=hwt _ rfl ⟨14,.data⟩ (by simp) rfl;obtain⟨hm,hp⟩:=hg.2.2.2 rfl;refine⟨⟨hob,hp⟩,(fun e=>by simp[done,l14] at e),(fun _ e=>by simp[done] at e),fun _=>hm⟩
   ·(have e14:done l i 14=l 14:=by unfold done;rw[if_neg (fun e=>h14 e.symm)]);have e15:done l i 15=l 15:=by unfold done;rw[if_neg (fun e=>h15 e.symm)]
    rw[e14,e15,hg.2.1 h14 h15];exact hW
 case front=>
  intro i o a' wz l ho hi' hli hcl hwt hE hW hd K hK;have t0:a'.tmps[0]?.getD undef=.pointer (some ⟨PB,0,none⟩):=(evn a' 0).symm.trans (hE.at_ (by simp) (by omega));have t3:a'.tmps[3]?.getD undef=.pointer (some ⟨w.heap.size,0,none⟩):=(evn a' 3).symm.trans (hE.at_ (by simp) (by omega));obtain⟨z1,z0,z4,z2,z3,z5⟩:=WW wz hW.1;have HW:=hZ hW;have HCL:=hZ hcl;clear hE hW hcl
  match i,ho,hi',hli,hwt,HCL,hd,hK with
  |0,ho,_,_,_,_,hd,hK=>obtain rfl:=oZ ho;clear hd;unfold Oper.wp;go_simp;exact hK _ _ ⟨Kx.gr gZ,fun _ _=>rfl,(fun e=>by cases e),(fun e=>by cases e)⟩ rfl
  |1,ho,_,_,_,_,hd,hK=>obtain rfl:=oZ ho;have e0:a'.eval (.tmp 37)=.pointer (some ⟨PB,0,none⟩):=hd ⟨0,.data⟩ (by simp) rfl;rw[evn] at e0;clear hd;unfold Oper.wp;go_simp;exact hK _ _ ⟨Kx.gr gZ,fun _ _=>rfl,(fun e=>by cases e),(fun e=>by cases e)⟩ rfl
  |2,ho,_,_,_,_,hd,hK=>obtain rfl:=oZ ho;have e0:a'.eval (.tmp 38)=.pointer (some ⟨PB,0,none⟩):=hd ⟨1,.data⟩ (by simp) rfl;rw[evn] at e0;clear hd;unfold Oper.wp;go_simp;exact hK _ _ ⟨Kx.gr gZ,fun _ _=>rfl,(fun e=>by cases e),(fun e=>by cases e)⟩ rfl
  |3,ho,_,_,_,_,hd,hK=>obtain rfl:=oZ ho;have e0:a'.eval (.tmp 39)=.pointer (some ⟨PB,0,none⟩):=hd ⟨2,.data⟩ (by simp) rfl;rw[evn] at e0;clear hd;unfold Oper.wp;go_simp;exact hK _ _ ⟨Kx.gr gZ,fun _ _=>rfl,(fun e=>by cases e),(fun e=>by cases e)⟩ rfl
  |4,ho,_,_,_,_,hd,hK=>obtain rfl:=oZ ho;clear hd;unfold Oper.wp;go_simp;exact hK _ _ ⟨Kx.gr gZ,fun _ _=>rfl,(fun e=>by cases e),(fun e=>by cases e)⟩ rfl
  |5,ho,_,_,_,_,hd,hK=>obtain rfl:=oZ ho;have e0:a'.eval (.tmp 41)=.pointer (some ⟨w.heap.size,2,none⟩):=hd ⟨4,.data⟩ (by simp) rfl;rw[evn] at e0;clear hd;unfold Oper.wp;go_simp;exact hK _ _ ⟨Kx.gr gZ,fun _ _=>rfl,(fun e=>by cases e),(fun e=>by cases e)⟩ rfl
  |6,ho,_,_,_,_,hd,hK=>obtain rfl:=oZ ho;clear hd;unfold Oper.wp;go_simp;exact hK _ _ ⟨Kx.gr gZ,fun _ _=>rfl,(fun e=>by cases e),(fun e=>by cases e)⟩ rfl
  |7,ho,_,_,_,_,hd,hK=>obtain rfl:=oZ ho;have e0:a'.eval (.tmp 43)=.pointer (some ⟨w.heap.size,3,none⟩):=hd ⟨6,.data⟩ (by simp) rfl;rw[evn] at e0;clear hd;unfold Oper.wp;go_simp;exact hK _ _ ⟨Kx.gr gZ,fun _ _=>rfl,(fun e=>by cases e),(fun e=>by cases e)⟩ rfl
  |8,ho,_,_,_,_,hd,hK=>obtain rfl:=oZ ho;clear hd;unfold Oper.wp;go_simp;exact hK _ _ ⟨Kx.gr gZ,fun _ _=>rfl,(fun e=>by cases e),(fun e=>by cases e)⟩ rfl
  |9,ho,_,_,_,_,hd,hK=>obtain rfl:=oZ ho;have e0:a'.eval (.tmp 45)=.pointer (some ⟨PB,0,none⟩):=hd ⟨8,.data⟩ (by simp) rfl;rw[evn] at e0;clear hd;unfold Oper.wp;go_simp;exact hK _ _ ⟨Kx.gr gZ,fun _ _=>rfl,(fun e=>by cases e),(fun e=>by cases e)⟩ rfl
  |10,ho,_,_,_,_,hd,hK=>obtain rfl:=oZ ho;have e0:a'.eval (.tmp 46)=.pointer (some ⟨PB,0,none⟩):=hd ⟨9,.data⟩ (by simp) rfl;rw[evn] at e0;clear hd;unfold Oper.wp;go_simp;exact hK _ _ ⟨Kx.gr gZ,fun _ _=>rfl,(fun e=>by cases e),(fun e=>by cases e)⟩ rfl
  |11,ho,_,_,_,_,hd,hK=>obtain rfl:=oZ ho;have e0:a'.eval (.tmp 47)=.pointer (some ⟨PB,2,none⟩):=hd ⟨10,.data⟩ (by simp) rfl;rw[evn] at e0;clear hd;unfold Oper.wp;go_simp;exact hK _ _ ⟨Kx.gr gZ,fun _ _=>rfl,(fun e=>by cases e),(fun e=>by cases e)⟩ rfl
  |12,ho,_,_,_,_,hd,hK=>obtain rfl:=oZ ho;clear hd;unfold Oper.wp;go_simp;exact hK _ _ ⟨Kx.gr gZ,fun _ _=>rfl,(fun e=>by cases e),(fun e=>by cases e)⟩ rfl
  |13,ho,_,_,_,_,hd,hK=>obtain rfl:=oZ ho;have e0:a'.eval (.tmp 49)=.pointer (some ⟨w.heap.size,4,none⟩):=hd ⟨12,.data⟩ (by simp) rfl;rw[evn] at e0;clear hd;unfold Oper.wp;go_simp;exact hK _ _ ⟨Kx.gr gZ,fun _ _=>rfl,(fun e=>by cases e),(fun e=>by cases e)⟩ rfl
  |14,ho,_,hli,_,_,hd,hK=>obtain rfl:=oZ ho;have e0:a'.eval (.tmp 48)=.pointer (some ⟨LB,0,none⟩):=hd ⟨11,.data⟩ (by simp) rfl;have e1:a'.eval (.tmp 50)=.slice fad f.length fc:=hd ⟨13,.data⟩ (by simp) rfl;rw[evn] at e0 e1;have GZ:=hZ (HW.2.1 hli);have CC:=hZ (CPY wz GZ.out);have HSZ:Hid (w.heap.size<wz.heap.size):=fZ HW.1.1;clear hd hli z0 z1 z2 z3 z4 z5 HW;unfold Oper.wp;go_simp;refine CC.mono ?_;rintro e w1 ⟨ad',cap',he,q1,q2,q3⟩;subst he;have HM:=hZ (And.intro q1 (And.intro q2 (KD wz w1 HSZ.out q3)));clear q1 q2 q3 CC;go_simp;exact hK _ _ ⟨HM.2.2,(fun e=>absurd rfl e),fun _=>HM.2.1,(fun e=>by cases e)⟩ ⟨ad',cap',rfl,HM.1⟩
  |15,ho,_,hli,hwt,_,hd,hK=>obtain rfl:=oZ ho;have e0:a'.eval (.tmp 40)=.pointer (some ⟨T.TB,0,none⟩):=hd ⟨3,.data⟩ (by simp) rfl;have e1:a'.eval (.tmp 42)=.int .i64 a:=hd ⟨5,.data⟩ (by simp) rfl;have e2:a'.eval (.tmp 44)=.int .i64 b:=hd ⟨7,.data⟩ (by simp) rfl;have e3':∃ad cap,a'.eval (.tmp 51)=.slice ad f.length cap/\Fcp w.heap.size wz ad f:=hd ⟨14,.data⟩ (by simp) rfl;obtain⟨ad,cap,e3,q0⟩:=e3';rw[evn] at e0 e1 e2 e3;have l14:l 14=true:=hwt _ rfl ⟨14,.data⟩ (by simp) rfl;have CP:=hZ (HW.2.2.1 l14 hli);have CC:=hZ (HP' wz w.heap.size ad cap (CTF wz CP.out) q0);have PZ:=hZ HW.1.2;clear hd hli hwt l14 q0 z0 z1 z2 z3 z4 z5 HW;unfold Oper.wp;go_simp;refine CC.mono ?_;rintro e w1 ⟨he,r1,q1,q2⟩;subst he;have HM:Hid (MdS A T C r R LB PB BB B D L M w cs s cs' s' w1/\w1.heap[PB]?=some po):=⟨⟨r1,wz,CP.out,q1,q2⟩,PBF r1 wz w1 q2 po PZ.out⟩;have HK:=hZ (KF r1 wz w1 q2);clear q1 q2 CC;go_simp;exact hK _ _ ⟨HK.out,(fun _ e=>absurd rfl e),(fun e=>by cases e),fun _=>HM.out⟩ rfl
  |k+16,_,hi',_,_,_,_,_=>exact absurd hi' (by omega)
 case last=>
  intro o a' wz ho hE hW hd K hK;obtain rfl:=oZ ho;have e15:a'.eval (.tmp 52)=.int .i64 code:=hd 15 (by omega);have hdf:=hE.df;obtain⟨l,hW,hl⟩:=hW;have MD:=hZ (hW.2.2.2 (hl 15 (by omega)));have BZ:=hZ hW.1;obtain⟨z,hz,hts⟩:=hE.ts;have HTS:=hZ (And.intro hz (And.intro hts hdf));clear hz hts hdf hd hE ho hW hl;rw[evn] at e15;unfold Oper.wp;go_simp;refine hK _ _ ?_;clear hK;obtain⟨hz,hts,hdf⟩:=HTS.out;obtain⟨z0,z1,z2,z3,z4,z5,z6,z7,z8,z9,z10,z11,z12,z13,z14,z15,rfl⟩:∃z0 z1 z2 z3 z4 z5 z6 z7 z8 z9 z10 z11 z12 z13 z14 z15,z=[z0,z1,z2,z3,z4,z5,z6,z7,z8,z9,z10,z11,z12,z13,z14,z15]:=by
   match z,hz with
   |[z0,z1,z2,z3,z4,z5,z6,z7,z8,z9,z10,z11,z12,z13,z14,z15],_=>exact⟨z0,z1,z2,z3,z4,z5,z6,z7,z8,z9,z10,z11,z12,z13,z14,z15,rfl⟩
  obtain⟨tm,df⟩:=a';simp only at hts hdf;subst hts hdf;clear hz HTS;simp only[bP,bY,bQ,bX,bD,bM];have FC:Hid (∀W,Gr wz W->FiC A W fad f/\Rw A C T R W cs s):=fun W g=>⟨(FCM wz MD.out).1.gr g,(FCM wz MD.out).2.1.gr g⟩;have WW2:Hid (∀W,Kx (fun k=>R k≠.no) wz W->W.cell? ⟨PB,1,none⟩=some (.pointer (some ⟨C.TB,0,none⟩))/\W.cell? ⟨w.heap.size,2,none⟩=some (.int .i64 a)/\W.cell? ⟨w.heap.size,3,none⟩=some (.int .i64 b)/\W.cell? ⟨w.heap.size,4,none⟩=some (.slice fad f.length fc)):=fun W g=>by obtain⟨_,c1,_,c2,c3,c4⟩:=WW W ⟨(g.keep _ (fZ BZ.1) (fun e=>e TPR.out)).trans BZ.1,(g.keep _ (fZ BZ.2) (fun e=>e NPR.out)).trans BZ.2⟩;exact⟨c1,c2,c3,c4⟩
  clear WW CPY KD KF PBF FCM CTF CPB HP';go_wp2_with fail;refine nI rfl 14 12 (by decide) (by rfl) (fun i=>53+i) (fun i _ j _ h=>by omega) (RsT PB C.TB w.heap.size a b fad f.length fc code) (Ef0 _ 53 14) (fun t W=>Kx (fun k=>R k≠.no) wz W/\(t=false->Gr wz W)/\(t=true->∃R2,Rw A C T R2 W cs' s'/\Fr R R2 wz W)) (fun i wa wb=>(i≠12->wb=wa)/\(i=12->∃R2,Rw A C T R2 wb cs' s'/\Fr R R2 wz wb)) (fun a i x hi h=>Ef0.put (by simp) a i x hi h) (fun a h i hi=>by have:=h.sz (by simp);simp at this;omega) (fun i t wa wb hi h g=>by rw[g.1 hi];exact h) (fun wa wb h g=>by obtain⟨R2,m1,m2⟩:=g.2 rfl;exact⟨m2.kx,(fun e=>by cases e),fun _=>⟨R2,m1,m2⟩⟩) (fun i j x wa wb _ h _=>RsT.st j x wa wb h) ?front2 ?last2 (Ef0.start _ 53 14 (by simp)) ⟨Kx.gr (Gr.refl wz).drew,fun _=>(Gr.refl wz).drew,(fun e=>by cases e)⟩;case front2=>
   intro i o a' wy t ho hi' hmt hE hW hd K hK;have t0:a'.tmps[0]?.getD undef=.pointer (some ⟨PB,0,none⟩):=(evn a' 0).symm.trans (hE.at_ (by simp) (by omega));have t3:a'.tmps[3]?.getD undef=.pointer (some ⟨w.heap.size,0,none⟩):=(evn a' 3).symm.trans (hE.at_ (by simp) (by omega));have t6:a'.tmps[6]?.getD undef=.int .i64 code:=(evn a' 6).symm.trans (hE.at_ (by simp) (by omega));obtain⟨z1,z2,z3,z4⟩:=WW2 wy hW.1;have HW:=hZ hW;clear hE hW
   match i,ho,hi',hmt,hd,hK with
   |0,ho,_,_,hd,hK=>obtain rfl:=oZ ho;clear hd;unfold Oper.wp;go_simp;exact hK _ _ ⟨fun _=>rfl,(fun e=>by cases e)⟩ rfl
   |1,ho,_,_,hd,hK=>obtain rfl:=oZ ho;have e0:a'.eval (.tmp 53)=.int .i64 code:=hd ⟨0,.data⟩ (by simp) rfl;rw[evn] at e0;clear hd;unfold Oper.wp;go_simp;refine(nU code wy).mono ?_;rintro e w5 ⟨rfl,hw5⟩;go_simp;exact hK _ _ ⟨fun _=>rfl,(fun e=>by cases e)⟩ rfl
   |2,ho,_,_,hd,hK=>obtain rfl:=oZ ho;clear hd;unfold Oper.wp;go_simp;exact hK _ _ ⟨fun _=>rfl,(fun e=>by cases e)⟩ rfl
   |3,ho,_,_,hd,hK=>obtain rfl:=oZ ho;have e0:a'.eval (.tmp 55)=.pointer (some ⟨PB,0,none⟩):=hd ⟨2,.data⟩ (by simp) rfl;rw[evn] at e0;clear hd;unfold Oper.wp;go_simp;exact hK _ _ ⟨fun _=>rfl,(fun e=>by cases e)⟩ rfl
   |4,ho,_,_,hd,hK=>obtain rfl:=oZ ho;have e0:a'.eval (.tmp 56)=.pointer (some ⟨PB,0,none⟩):=hd ⟨3,.data⟩ (by simp) rfl;rw[evn] at e0;clear hd;unfold Oper.wp;go_simp;exact hK _ _ ⟨fun _=>rfl,(fun e=>by cases e)⟩ rfl
   |5,ho,_,_,hd,hK=>obtain rfl:=oZ ho;have e0:a'.eval (.tmp 57)=.pointer (some ⟨PB,1,none⟩):=hd ⟨4,.data⟩ (by simp) rfl;rw[evn] at e0;clear hd;unfold Oper.wp;go_simp;exact hK _ _ ⟨fun _=>rfl,(fun e=>by cases e)⟩ rfl
   |6,ho,_,_,hd,hK=>obtain rfl:=oZ ho;clear hd;unfold Oper.wp;go_simp;exact hK _ _ ⟨fun _=>rfl,(fun e=>by cases e)⟩ rfl
   |7,ho,_,_,hd,hK=>obtain rfl:=oZ ho;have e0:a'.eval (.tmp 59)=.pointer (some ⟨w.heap.size,2,none⟩):=hd ⟨6,.data⟩ (by simp) rfl;rw[evn] at e0;clear hd;unfold Oper.wp;go_simp;exact hK _ _ ⟨fun _=>rfl,(fun e=>by cases e)⟩ rfl
   |8,ho,_,_,hd,hK=>obtain rfl:=oZ ho;clear hd;unfold Oper.wp;go_simp;exact hK _ _ ⟨fun _=>rfl,(fun e=>by cases e)⟩ rfl
   |9,ho,_,_,hd,hK=>obtain rfl:=oZ ho;have e0:a'.eval (.tmp 61)=.pointer (some ⟨w.heap.size,3,none⟩):=hd ⟨8,.data⟩ (by simp) rfl;rw[evn] at e0;clear hd;unfold Oper.wp;go_simp;exact hK _ _ ⟨fun _=>rfl,(fun e=>by cases e)⟩ rfl
   |10,ho,_,_,hd,hK=>obtain rfl:=oZ ho;clear hd;unfold Oper.wp;go_simp;exact hK _ _ ⟨fun _=>rfl,(fun e=>by cases e)⟩ rfl
   |11,ho,_,_,hd,hK=>obtain rfl:=oZ ho;have e0:a'.eval (.tmp 63)=.pointer (some ⟨w.heap.size,4,none⟩):=hd ⟨10,.data⟩ (by simp) rfl;rw[evn] at e0;clear hd;unfold Oper.wp;go_simp;exact hK _ _ ⟨fun _=>rfl,(fun e=>by cases e)⟩ rfl
   |12,ho,_,hmt,hd,hK=>obtain rfl:=oZ ho;have e0:a'.eval (.tmp 58)=.pointer (some ⟨C.TB,0,none⟩):=hd ⟨5,.data⟩ (by simp) rfl;have e1:a'.eval (.tmp 60)=.int .i64 a:=hd ⟨7,.data⟩ (by simp) rfl;have e2:a'.eval (.tmp 62)=.int .i64 b:=hd ⟨9,.data⟩ (by simp) rfl;have e3:a'.eval (.tmp 64)=.slice fad f.length fc:=hd ⟨11,.data⟩ (by simp) rfl;rw[evn] at e0 e1 e2 e3;have GZ:=hZ (HW.2.1 (hmt rfl));have CC:=hZ (HR' wy (FC wy GZ.out).2 (FC wy GZ.out).1);clear hd hmt z1 z2 z3 z4 HW;unfold Oper.wp;go_simp;refine CC.mono ?_;rintro e w5 ⟨he,R2,q1,q2⟩;subst he;have HM:Hid (∃R2,Rw A C T R2 w5 cs' s'/\Fr R R2 wz w5):=⟨R2,q1,(Fr.gr GZ.out).trans q2⟩;clear q1 q2 CC;go_simp;exact hK _ _ ⟨(fun e=>absurd rfl e),fun _=>HM.out⟩ rfl
   |13,ho,_,_,hd,hK=>obtain rfl:=oZ ho;have e0:a'.eval (.tmp 54)=.int .i64 code:=hd ⟨1,.data⟩ (by simp) rfl;rw[evn] at e0;have e1:a'.eval (.tmp 65)=.int .i64 code:=hd ⟨12,.data⟩ (by simp) rfl;rw[evn] at e1;clear hd;unfold Oper.wp;go_simp;exact hK _ _ ⟨fun _=>rfl,(fun e=>by cases e)⟩ rfl
   |k+14,_,hi',_,_,_=>exact absurd hi' (by omega)
  case last2=>
   intro o a' wy ho hE hW hd K hK;obtain rfl:=oZ ho;have e13:a'.eval (.tmp 66)=.bool true:=hd 13 (by omega);have hdf:=hE.df;obtain⟨R2,q1,q2⟩:=hW.2.2 rfl;obtain⟨r1,D',FN⟩:=MD.fin q2 q1;have FIN:=hZ FN;obtain⟨z,hz,hts⟩:=hE.ts;have HTS:=hZ (And.intro hz (And.intro hts hdf));clear hz hts hdf hd hE ho hW q1 q2 FN;rw[evn] at e13;unfold Oper.wp;go_simp;refine hK _ _ ?_;clear hK;obtain⟨hz,hts,hdf⟩:=HTS.out;obtain⟨y0,y1,y2,y3,y4,y5,y6,y7,y8,y9,y10,y11,y12,y13,rfl⟩:∃y0 y1 y2 y3 y4 y5 y6 y7 y8 y9 y10 y11 y12 y13,z=[y0,y1,y2,y3,y4,y5,y6,y7,y8,y9,y10,y11,y12,y13]:=by
    match z,hz with
    |[y0,y1,y2,y3,y4,y5,y6,y7,y8,y9,y10,y11,y12,y13],_=>exact⟨y0,y1,y2,y3,y4,y5,y6,y7,y8,y9,y10,y11,y12,y13,rfl⟩
   obtain⟨tm,df⟩:=a';simp only at hts hdf;subst hts hdf;clear hz HTS;simp only[bP,bY,bQ,bX,bD,bM];go_wp2_with fail;go_ret;exact⟨rfl,r1,R2,D',cs',s',HC.out,FIN.out⟩
end Go.Proofs.YtecnfgikbmcgoabGreat
