import Derived.Test.YtecnfgikbmcgoabGreatG12
set_option maxHeartbeats 8000000
set_option maxRecDepth 100000
namespace Go.Proofs.YtecnfgikbmcgoabGreat
open Go.Proofs.Tryz
open Go.RowKit
variable {T:Tc}{Xs:Nat->List Hm}{base:Nat}{cls:List Cl}{qs':Nat->Nat->List Mm}{ve vew vf vw:Value}{w w':World}
abbrev Ts:=TS (List Wnt) (List Atr)
def Tw(T:Tc)(r:Nat->Rl)(w:World)(cls:List Cl)(s:Ts):Prop:=∃Xs qs,Tm T r w Xs qs cls/\Vw T Xs qs s
theorem Tw.gr{r:Nat->Rl}{s:Ts}(h:Tw T r w cls s)(g:Gr w w'):Tw T r w' cls s:=by obtain⟨Xs,qs,h1,h2⟩:=h;exact⟨Xs,qs,h1.gr g,h2⟩
theorem vR{r:Nat->Rl}{qs:Nat->Nat->List Mm}{s:Ts}(h:Tm T r w Xs qs cls)(v:Vw T Xs qs s){b:Nat}(hb:b<T.nb):(Xs b).length<=(s.held b).length:=by
 obtain⟨_,es,clock,hm⟩:=h.h.at' b hb;have hd:=hm.nod;rw[bV] at hd;have hnd:((Xs b).map fun x=>x.1.key).Pairwise fun x y=>x≠y:=by rw[cB];have:=cB.1 hd;exact this.imp (fun hab e=>hab (by show pk _=pk _;rw[e]))
 have:=nC ((Xs b).map fun x=>x.1.key) ((s.held b).map fun x=>x.key) hnd (fun k hk=>by obtain⟨x,hx,rfl⟩:=aC.1 hk;exact aC.2 ⟨x.1,(v.held b hb x.1).2 ⟨x,hx,rfl⟩,rfl⟩);simpa using this
theorem uC{qs:Nat->Nat->List Mm}{s:Ts}(v:Vw T Xs qs s)(a b:Nat):(qs a b).length=(s.q a b).length:=by rw[v.q,aB]
theorem Vp{qs:Nat->Nat->List Mm}{s:Ts}(v:Vw T Xs qs s)(hadj:∀a b,T.adj a b=true->a<T.nb/\b<T.nb){b:Nat}(hb:b<T.nb){h:Hw}(a':Option Addr)(c':Nat)(hs:Srt (s.held b))(hn:∀g∈s.held b,g.key≠h.key)(hq:∀x y,(qs' x y).map Mm.ms=jV (fun x y=>(qs x y).map Mm.ms) b (pN (s.held b) h) (nbs T.adj T.nb b T.nb) x y):Vw T (fun c=>if c=b then Xs b++[(h,a',c')] else Xs c) qs' (s.turn cov T.adj b (ins h (s.held b))):=by
 refine⟨fun c hc g=>?_,fun x y=>?_⟩
 ·by_cases hcb:c=b
  ·subst hcb;simp only[TS.turn,if_true];rw[iU];constructor
   ·rintro(rfl|⟨h1,_⟩)
    ·exact⟨(g,a',c'),by simp,rfl⟩
    ·obtain⟨x,hx,rfl⟩:=(v.held c hc g).1 h1;exact⟨x,by simp[hx],rfl⟩
   ·rintro⟨x,hx,rfl⟩;rcases aE.1 hx with hx|hx
    ·have:=(v.held c hc x.1).2 ⟨x,hx,rfl⟩;exact Or.inr ⟨this,hn _ this⟩
    ·rw[aM.1 hx];exact Or.inl rfl
  ·simp only[TS.turn,if_neg hcb];exact v.held c hc g
 ·rw[hq x y];simp only[TS.turn,jV];by_cases hx:x=b
  ·subst hx;by_cases hy:T.adj x y=true
   ·have hm:y∈nbs T.adj T.nb x T.nb:=kV.2 ⟨(hadj x y hy).2,(hadj x y hy).2,hy⟩;rw[if_pos ⟨rfl,hy⟩,if_pos ⟨rfl,hm⟩,v.q];congr 1;unfold pN;by_cases hf:(y:Int)=h.fr
    ·rw[if_pos hf,hf,oC hs hn]
    ·rw[if_neg hf,Ee hs hn (fun e=>hf e.symm)]
   ·rw[if_neg (fun e=>hy e.2),if_neg (fun e=>hy (kV.1 e.2).2.2),aZ,v.q]
  ·rw[if_neg (fun e=>hx e.1),if_neg (fun e=>hx e.1),aZ,v.q]
theorem Vq{qs:Nat->Nat->List Mm}{s:Ts}(v:Vw T Xs qs s)(hadj:∀a b,T.adj a b=true->a<T.nb/\b<T.nb){b:Nat}(hb:b<T.nb){h:Hw}{X':List Hm}(hX:∀y,y∈X'↔y∈Xs b/\y.1.key≠h.key)(hs:Srt (s.held b))(hm:h∈s.held b)(hq:∀x y,(qs' x y).map Mm.ms=jV (fun x y=>(qs x y).map Mm.ms) b (rR (del h.key (s.held b)) h) (nbs T.adj T.nb b T.nb) x y):Vw T (fun c=>if c=b then X' else Xs c) qs' (s.turn cov T.adj b (del h.key (s.held b))):=by
 refine⟨fun c hc g=>?_,fun x y=>?_⟩
 ·by_cases hcb:c=b
  ·subst hcb;simp only[TS.turn,if_true];rw[jO];constructor
   ·rintro⟨h1,h2⟩;obtain⟨x,hx,rfl⟩:=(v.held c hc g).1 h1;exact⟨x,(hX x).2 ⟨hx,h2⟩,rfl⟩
   ·rintro⟨x,hx,rfl⟩;have:=(hX x).1 hx;exact⟨(v.held c hc x.1).2 ⟨x,this.1,rfl⟩,this.2⟩
  ·simp only[TS.turn,if_neg hcb];exact v.held c hc g
 ·rw[hq x y];simp only[TS.turn,jV];by_cases hx:x=b
  ·subst hx;by_cases hy:T.adj x y=true
   ·have hm':y∈nbs T.adj T.nb x T.nb:=kV.2 ⟨(hadj x y hy).2,(hadj x y hy).2,hy⟩;rw[if_pos ⟨rfl,hy⟩,if_pos ⟨rfl,hm'⟩,v.q];congr 1;unfold rR;by_cases hf:(y:Int)=h.fr
    ·rw[if_pos hf,hf,oD hs hm]
    ·rw[if_neg hf,Ef hs hm (fun e=>hf e.symm)]
   ·rw[if_neg (fun e=>hy e.2),if_neg (fun e=>hy (kV.1 e.2).2.2),aZ,v.q]
  ·rw[if_neg (fun e=>hx e.1),if_neg (fun e=>hx e.1),aZ,v.q]
theorem Qo{qs:Nat->Nat->List Mm}{s:Ts}(v:Vw T Xs qs s)(a b:Nat):Vw T Xs (mO qs a b) (s.pop a b):=by
 refine⟨v.held,fun x y=>?_⟩;simp only[TS.pop,mO];split
 ·rw[v.q,List.map_tail]
 ·exact v.q x y
structure Sm(T:Tc)(s:Ts):Prop where
 h:∀b,b<T.nb->(s.held b).length<=1048576
 q:∀a b,(s.q a b).length<549755813888
theorem Tr(T:Tc)(r:Nat->Rl)(w:World)(Xs:Nat->List Hm)(qs:Nat->Nat->List Mm)(cls:List Cl)(s:Ts)(b:Nat)(h:Hw)(a':Option Addr)(c':Nat)(hT:Tm T r w Xs qs cls)(v:Vw T Xs qs s)(hb:b<T.nb)(hf:FiR r w a' h.f)(hk:I64 h.key.1/\I64 h.key.2)(hs:Srt (s.held b))(hn:∀g∈s.held b,g.key≠h.key)(hm:Sm T s):Calls prog 42 #[.pointer (some ⟨T.TB,0,none⟩),.int .i64 b,.agg (hv h a' c')] w fun e w'=>e=.returned (.tuple #[])/\∃r',Tw T r' w' cls (s.turn cov T.adj b (ins h (s.held b)))/\Fr r r' w w':=by refine(Tt T r w Xs qs cls b h a' c' (s.held b) hT hb hf hk hs (v.held b hb) (fun x hx=>hn _ ((v.held b hb x.1).2 ⟨x,hx,rfl⟩)) (aA (vR hT v hb) (hm.h b hb)) (fun n=>by rw[uC v];exact hm.q b n)).mono ?_;rintro e w' ⟨he,r',qs',h1,h2,h3⟩;exact⟨he,r',⟨_,qs',h1,Vp v hT.b.adj hb a' c' hs hn h3⟩,h2⟩
theorem Uf(T:Tc)(r:Nat->Rl)(w:World)(Xs:Nat->List Hm)(qs:Nat->Nat->List Mm)(cls:List Cl)(s:Ts)(b:Nat)(h:Hw)(hT:Tm T r w Xs qs cls)(v:Vw T Xs qs s)(hb:b<T.nb)(hs:Srt (s.held b))(hh:h∈s.held b)(hm:Sm T s):Calls prog 48 #[.pointer (some ⟨T.TB,0,none⟩),.int .i64 b,.agg #[.int .i64 h.key.1,.int .i64 h.key.2]] w fun e w'=>e=.returned (.tuple #[])/\∃r',Tw T r' w' cls (s.turn cov T.adj b (del h.key (s.held b)))/\Fr r r' w w':=by
 obtain⟨⟨h',a',c'⟩,hx,rfl⟩:=(v.held b hb h).1 hh;refine(Uh T r w Xs qs cls b h' a' c' (del h'.key (s.held b)) hT hb hx (hs.del _) (fun g=>?_) (aA (vR hT v hb) (hm.h b hb)) (fun n=>by rw[uC v];exact hm.q b n)).mono ?_
 ·rw[jO,v.held b hb g];constructor
  ·rintro⟨⟨x,hx,rfl⟩,h2⟩;exact⟨x,hx,rfl,h2⟩
  ·rintro⟨x,hx,rfl,h2⟩;exact⟨⟨x,hx,rfl⟩,h2⟩
 ·rintro e w' ⟨he,X',r',qs',h0,_,h1,h2,h3⟩;exact⟨he,r',⟨_,qs',h1,Vq v hT.b.adj hb h0 hs hh h3⟩,h2⟩
theorem Ko(T:Tc)(r:Nat->Rl)(w:World)(Xs:Nat->List Hm)(qs:Nat->Nat->List Mm)(cls:List Cl)(s:Ts)(a b:Nat)(k:Ky)(f:List Wnt)(ad:Option Addr)(cap:Nat)(hT:Tm T r w Xs qs cls)(v:Vw T Xs qs s)(hb:b<T.nb)(hf:FiR r w ad f)(hk:I64 k.1/\I64 k.2)(hs:Srt (s.held b))(hn:∀g∈s.held b,g.key≠k)(hm:Sm T s):Calls prog 55 #[.pointer (some ⟨T.TB,0,none⟩),.agg #[.int .i64 a,.int .i64 b],.agg #[.slice none 0 0,.int .i64 k.1,.int .i64 k.2,.slice ad f.length cap]] w fun e w'=>e=.returned (.tuple #[])/\∃r',Tw T r' w' cls (s.turn cov T.adj b (ins ⟨k,f,a⟩ (s.held b)))/\Fr r r' w w':=by obtain⟨fb,fo,hfa,_⟩:=hf.r;have HT:=hZ hT;have HV:=hZ v;have HF:=hZ hf;have HK:=hZ hk;have HS:=hZ hs;have HN:=hZ hn;have HM:=hZ hm;clear hT v hf hk hs hn hm;subst hfa;go_enter func55,ntmps55;go_wp2_with fail;go_quiet(fail);have G2:Hid (Gr w ((((w.alloc (.cells #[.int .i64 a,.int .i64 b] 30)).alloc (.cells #[.slice none 0 0,.int .i64 k.1,.int .i64 k.2,.slice (some ⟨fb,fo,none⟩) f.length cap] 149)).drewN nq))):=((((Gr.refl w).alloc _).alloc _).drewN nq);go_wp2_with fail;refine(Tr T r _ Xs qs cls s b ⟨k,f,a⟩ (some ⟨fb,fo,none⟩) cap (HT.gr G2.out) HV.out hb (HF.keep G2.size (fun i hi _=>G2.block i hi) (fun _ _=>rfl)) HK.out HS.out HN.out HM.out).mono ?_;rintro e w2 ⟨rfl,r',h1,h2⟩;have FE:=hZ (And.intro h1 ((Fr.gr (r:=r) G2.out).trans h2));clear h1 h2 G2;go_wp2_with fail;exact bodyPost_end (v:=.tuple #[]) (by simp[results,results55,go_sem]) rfl ⟨rfl,r',FE.out⟩
theorem Kn(T:Tc)(r:Nat->Rl)(w:World)(Xs:Nat->List Hm)(qs:Nat->Nat->List Mm)(cls:List Cl)(s:Ts)(a b:Nat)(h:Hw)(hT:Tm T r w Xs qs cls)(v:Vw T Xs qs s)(hb:b<T.nb)(hs:Srt (s.held b))(hh:h∈s.held b)(hm:Sm T s):Calls prog 55 #[.pointer (some ⟨T.TB,0,none⟩),.agg #[.int .i64 a,.int .i64 b],.agg #[.slice none 0 0,.int .i64 h.key.1,.int .i64 h.key.2,.slice none 0 0]] w fun e w'=>e=.returned (.tuple #[])/\∃r',Tw T r' w' cls (s.turn cov T.adj b (del h.key (s.held b)))/\Fr r r' w w':=by have HT:=hZ hT;have HV:=hZ v;have HS:=hZ hs;have HN:=hZ hh;have HM:=hZ hm;clear hT v hs hh hm;go_enter func55,ntmps55;go_wp2_with fail;go_quiet(fail);have G2:Hid (Gr w ((((w.alloc (.cells #[.int .i64 a,.int .i64 b] 30)).alloc (.cells #[.slice none 0 0,.int .i64 h.key.1,.int .i64 h.key.2,.slice none 0 0] 149)).drewN nq))):=((((Gr.refl w).alloc _).alloc _).drewN nq);go_wp2_with fail;refine(Uf T r _ Xs qs cls s b h (HT.gr G2.out) HV.out hb HS.out HN.out HM.out).mono ?_;rintro e w2 ⟨rfl,r',h1,h2⟩;have FE:=hZ (And.intro h1 ((Fr.gr (r:=r) G2.out).trans h2));clear h1 h2 G2;go_wp2_with fail;exact bodyPost_end (v:=.tuple #[]) (by simp[results,results55,go_sem]) rfl ⟨rfl,r',FE.out⟩
theorem Uz(T:Tc)(r:Nat->Rl)(w:World)(Xs:Nat->List Hm)(qs:Nat->Nat->List Mm)(cls:List Cl)(s:Ts)(nxt:Nat->Nat->Int)(home:Int->Nat)(ok:List Wnt->Prop)(a b:Nat)(x:Mm)(rest:List (Ms (List Wnt) (List Atr)))(m0 m1 m2 m3:Value)(hx:iE x=[m0,m1,m2,m3])(hT:Tm T r w Xs (mO qs a b) cls)(v:Vw T Xs qs s)(I:Inv cov T.adj nxt home ok s)(hab:T.adj a b=true)(hq:s.q a b=x.ms::rest)(hne:∀e,x.ms≠.ev e)(hok:qY r w x)(hm:Sm T s):Calls prog 55 #[.pointer (some ⟨T.TB,0,none⟩),.agg #[.int .i64 a,.int .i64 b],.agg #[m0,m1,m2,m3]] w fun e w'=>e=.returned (.tuple #[])/\∃r',Tw T r' w' cls (s.nstep cov T.adj mat a b x.ms)/\Fr r r' w w':=by
 have hb:=(hT.b.adj a b hab).2;have v':=Qo v a b;have hm':Sm T (s.pop a b):=⟨hm.h,fun p q=>by
  have:((s.pop a b).q p q).length<=(s.q p q).length:=by
   simp only[TS.pop];split
   ·rw[List.length_tail];omega
   ·exact lZ
  have:=hm.q p q;omega⟩
 obtain⟨ms,ad,cap⟩:=x;unfold iE at hx;cases ms with
 |sub k f=>simp only[dJ,and_true] at hx;obtain⟨rfl,rfl,rfl,rfl⟩:=hx;exact Ko T r w Xs (mO qs a b) cls (s.pop a b) a b k f ad cap hT v' hb hok.2 hok.1 (I.srt b) (vE I hab hq) hm'
 |uns k=>simp only[dJ,and_true] at hx;obtain⟨rfl,rfl,rfl,rfl⟩:=hx;obtain⟨h,hh,rfl⟩:=Gt I hab hq;exact Kn T r w Xs (mO qs a b) cls (s.pop a b) a b h hT v' hb (I.srt b) hh hm'
 |ev e=>exact absurd rfl (hne e)
theorem Ve(T:Tc)(r:Nat->Rl)(w:World)(cls:List Cl)(s:Ts)(nxt:Nat->Nat->Int)(home:Int->Nat)(ok:List Wnt->Prop)(a b:Nat)(m:Ms (List Wnt) (List Atr))(rest:List (Ms (List Wnt) (List Atr)))(hT:Tw T r w cls s)(I:Inv cov T.adj nxt home ok s)(hab:T.adj a b=true)(hq:s.q a b=m::rest)(hne:∀e,m≠.ev e)(hm:Sm T s):Calls prog 26 #[.pointer (some ⟨T.TB,0,none⟩),.int .i64 a,.int .i64 b] w fun e w'=>e=.returned (.int .i64 0)/\∃r',Tw T r' w' cls (s.nstep cov T.adj mat a b m)/\Fr r r' w w':=by
 obtain⟨Xs,qs,hT,hV⟩:=hT;obtain⟨x,xs,hqs,rfl⟩:∃x xs,qs a b=x::xs/\x.ms=m:=by have:=hV.q a b;rw[hq] at this;obtain⟨x,xs,e1,e2,e3⟩:=eU.1 this.symm;exact⟨x,xs,e1,e2⟩
 obtain⟨a0,n0,c0,k1,k2,a3,n3,c3,hx⟩:=uW x;have ga:Gr w (w.alloc (.cells #[.int .i64 a,.int .i64 b] 30)):=(Gr.refl w).alloc _;have HB:=fY w (.cells #[.int .i64 a,.int .i64 b] 30);have hT1:=hT.gr ga;obtain⟨mm,es,clock,hmp,_,hall,hev⟩:=hT1.l.lk;obtain⟨v,hv⟩:=hev a b hab;have hQ:Qr (w.alloc (.cells #[.int .i64 a,.int .i64 b] 30)) 149 4 (fun k=>r k=.qu a b) v (xs.length+1) ((qs a b).flatMap iE):=by obtain⟨a',b',e,_,hQ⟩:=hall _ v hv;have:=mT e;simp only[cP,dX] at this;rw[<-this.1,<-this.2] at hQ;rw[show xs.length+1=(qs a b).length by rw[hqs];rfl];exact hQ
 obtain⟨va,vc,rfl⟩:=hQ.shape;have hltn:=hT.b.adj a b hab;have hnb:=hT.b.nb8;obtain⟨lk,hlk⟩:=Bc ((a:Int),(b:Int)) ⟨by omega,by omega⟩ ⟨by omega,by omega⟩;have hlu:∀n:Nat,(Instr.lookup 107 (.map (some T.LB)) (.agg #[.int .i64 a,.int .i64 b]) false).run prog ((w.alloc (.cells #[.int .i64 a,.int .i64 b] 30)).drewN n)=.ok (.slice va (xs.length+1) vc) ((w.alloc (.cells #[.int .i64 a,.int .i64 b] 30)).drewN n):=fun n=>Mp.look_yes Tryz.keyedE underlying107 (hmp.kept (by rw[World.heap_drewN])) hlk hv false;have hc2:=hT1.b.c2;have ka0:(w.alloc (.cells #[.int .i64 a,.int .i64 b] 30)).cell? ⟨w.heap.size,0,none⟩=some (.int .i64 a):=by rw[cZ HB];rfl
 have ka1:(w.alloc (.cells #[.int .i64 a,.int .i64 b] 30)).cell? ⟨w.heap.size,1,none⟩=some (.int .i64 b):=by rw[cZ HB];rfl
 have hz:((xs.length:Int)+1==0)=false:=by simp;omega
 have HT1:=hZ hT1;have HV:=hZ hV;have HI:=hZ I;have HQ:=hZ hq;have HQS:=hZ hqs;have HX:=hZ hx;have HNE:=hZ hne;have HM:=hZ hm;have GA:=hZ ga;have HTOP:=hZ hT.b.top;have hTB:=hT1.tlt;have HHB:=hZ HB;clear hT hV I hq hqs hx hne hm hall hev hv hQ hmp hT1 ga HB;go_enter func26,ntmps26;go_wp2_with fail;generalize(w.alloc (.cells #[.int .i64 a,.int .i64 b] 30))=W1 at *;go_quiet(fail);have gd:=(Gr.refl W1).drewN nq;have T2:=HT1.gr gd;have G2:=hZ (GA.drewN nq);have HB2:=gK gd HHB.out;clear hlu ka0 ka1 hc2 HT1;go_wp2_with fail;generalize W1.drewN nq=W2 at *;have rb:r w.heap.size=.no:=by
  rcases cG w.heap.size w.heap.size with h|h
  ·omega
  ·exact HTOP _ h
 have ka0:W2.cell? ⟨w.heap.size,0,none⟩=some (.int .i64 a):=by rw[cZ HB2];rfl
 have ka1:W2.cell? ⟨w.heap.size,1,none⟩=some (.int .i64 b):=by rw[cZ HB2];rfl
 have TF:Hid (∀W3,W3=W2.drew->Calls prog 56 #[.pointer (some ⟨T.TB,0,none⟩),.agg #[.int .i64 a,.int .i64 b]] W3 fun e w'=>e=.returned (.agg #[.slice a0 n0 c0,.int .i64 k1,.int .i64 k2,.slice a3 n3 c3])/\Tm T r w' Xs (mO qs a b) cls/\Fr r r W3 w'/\w'.cell? ⟨w.heap.size,0,none⟩=some (.int .i64 a)/\w'.cell? ⟨w.heap.size,1,none⟩=some (.int .i64 b)):=by intro W3 e;subst e;refine(tI T r W2.drew Xs qs cls a b x xs a0 a3 n0 c0 n3 c3 k1 k2 HX.out (T2.gr (Gr.refl W2).drew) hab HQS.out).mono ?_;rintro e w' ⟨h1,h2,h3⟩;have hk:=(h3.keep w.heap.size (fZ (w:=W2.drew) HB2) (Or.inl rb)).trans HB2;exact⟨h1,h2,h3,by rw[cZ hk];rfl,by rw[cZ hk];rfl⟩
 have MOK:Hid (∀w',Fr r r W2.drew w'->qY r w' x):=fun w' k=>by have h1:qY r W2.drew x:=(T2.gr (Gr.refl W2).drew).l.ms a b x (by rw[HQS.out];simp);exact h1.keep k.size (fun i hi hr=>k.keep i hi (Or.inr hr)) k.same
 clear T2 HB2 gd;go_region_with(first
  |(go_at_call 56;refine(TF _ rfl).mono ?_;rintro e w3 ⟨rfl,h1,h2,ka0',ka1'⟩)
  |(go_at_call 55;refine(Uz T r _ Xs qs cls s nxt home ok a b x rest _ _ _ _ HX.out h1 HV.out HI.out hab HQ.out HNE.out (MOK _ h2) HM.out).mono ?_;rintro e w4 ⟨rfl,FE⟩))
 all_goals
  have GG:=hZ ((Fr.gr (r:=r) G2.drew).trans h2);have FE2:=hZ FE;clear h1 h2 ka0' ka1' FE TF MOK;go_wp2_with fail;go_ret;obtain⟨r',z1,z2⟩:=FE2.out;exact⟨rfl,r',z1,GG.trans z2⟩
open Go.Maps (Keyed)
abbrev Lw:=Nat×Nat×Nat
def Mc(x:Lw):List Value:=[.int .i64 (x.1:Int),.int .i64 (x.2.1:Int),.int .i64 (x.2.2:Int)]
def lW(l:List Lw):List Value:=l.flatMap Mc
theorem Gl(l:List Lw)(x:Lw):lW (l++[x])=lW l++[.int .i64 (x.1:Int),.int .i64 (x.2.1:Int),.int .i64 (x.2.2:Int)]:=by simp[lW,Mc]
def lk1(T:Tc)(s:Ts)(a:Nat):List Lw:=(nbs T.adj T.nb a T.nb).map fun b=>(a,b,(s.q a b).length)
def jG(T:Tc)(s:Ts)(k:Nat):List Lw:=(List.range k).flatMap (lk1 T s)
theorem wB(T:Tc)(s:Ts)(k:Nat):jG T s (k+1)=jG T s k++lk1 T s k:=by simp[jG,List.range_succ]
theorem Mb(T:Tc)(s:Ts)(a:Nat):(lk1 T s a).length<=T.nb:=by unfold lk1;rw[aB];exact wA _ _ _ _
theorem uX(T:Tc)(s:Ts):∀k,(jG T s k).length<=k*T.nb
 |0=>by simp[jG]
 |k+1=>by rw[wB,aG,Nat.succ_mul];have:=uX T s k;have:=Mb T s k;omega
theorem Tryz.infoLink:(Tryz.prog.info? 94).map (fun i=>(i.zero,i.size,i.bytes))=some (some (.agg #[.int .i64 0,.int .i64 0,.int .i64 0]),3,24):=by kernel_rfl
theorem Tw.look{r:Nat->Rl}{s:Ts}(h:Tw T r w cls s){a b:Nat}(hab:T.adj a b=true):∃va vc,(Instr.lookup 107 (.map (some T.LB)) (.agg #[.int .i64 a,.int .i64 b]) false).run prog w=.ok (.slice va (s.q a b).length vc) w:=by obtain⟨Xs,qs,h1,h2⟩:=h;obtain⟨m,es,clock,hmp,_,hall,hev⟩:=h1.l.lk;obtain⟨v,hv⟩:=hev a b hab;obtain⟨a',b',e,_,hQ⟩:=hall _ v hv;have:=mT e;simp only[cP,dX] at this;rw[<-this.1,<-this.2] at hQ;obtain⟨va,vc,rfl⟩:=hQ.shape;have hltn:=h1.b.adj a b hab;have hnb:=h1.b.nb8;obtain⟨lk,hlk⟩:=Bc ((a:Int),(b:Int)) ⟨by omega,by omega⟩ ⟨by omega,by omega⟩;refine⟨va,vc,?_⟩;rw[<-uC h2];exact Mp.look_yes Tryz.keyedE underlying107 hmp hlk hv false
theorem Tw.b{r:Nat->Rl}{s:Ts}(h:Tw T r w cls s):Tb T r w:=by obtain⟨Xs,qs,h1,h2⟩:=h;exact h1.b
theorem Tw.tlt{r:Nat->Rl}{s:Ts}(h:Tw T r w cls s):T.TB<w.heap.size:=by obtain⟨Xs,qs,h1,h2⟩:=h;exact h1.tlt
theorem An{r:Nat->Rl}{s:Ts}(h:Tw T r w cls s){b:Nat}(hb:b<T.nb):Calls prog 71 #[.pointer (some ⟨T.TB,0,none⟩),.int .i64 b] w fun e w'=>∃v,e=.returned v/\w'.ownsRow w.heap.size 3 1 v (nbs T.adj T.nb b T.nb).length (kT (nbs T.adj T.nb b T.nb))/\Gr w w':=by obtain⟨Xs,qs,h1,h2⟩:=h;exact nD (w0:=w) (base:=fun x y=>(qs x y).map Mm.ms) ⟨r,qs,h1,Fr.refl _ _,fun _ _=>rfl⟩ hb
theorem Cu(T:Tc)(r:Nat->Rl)(w:World)(cls:List Cl)(s:Ts)(hT:Tw T r w cls s)(hm:Sm T s):Calls prog 62 #[.pointer (some ⟨T.TB,0,none⟩)] w fun e w'=>∃v,e=.returned v/\w'.ownsRow w.heap.size 94 3 v (jG T s T.nb).length (lW (jG T s T.nb))/\Gr w w':=by
 obtain⟨i0,hi,hz0,hz1,hz2⟩:=info_parts Tryz.infoLink;have hnb:=hT.b.nb8;have HT:=hZ hT;have HM:=hZ hm;have c0:=hT.b.c0;have hTB:=hT.tlt;have LL:=hZ (uX T s);have L1:=hZ (Mb T s);clear hT hm;go_enter func62,ntmps62;go_wp2_with fail;go_loopw [3,12] (fun v i wr=>∃q:Nat,q<=T.nb/\i=.int .i64 q/\Hid (Gr w wr)/\Hid (wr.ownsRow w.heap.size 94 3 v (jG T s q).length (lW (jG T s q)))) (fun _ i _=>T.nb-(intOf i).toNat);case atStart=>exact⟨0,zZ,rfl,gZ,bF _ _ _ _⟩
 case round=>
  obtain⟨q,hq,rfl,G,O⟩:=hrel;obtain⟨va,vm,vk,rfl⟩:=gL O.out;clear c0;by_cases hlt:q<T.nb
  ·have NB:=hZ (An (HT.gr G.out) hlt);have NMEM:Hid (∀n,n∈nbs T.adj T.nb q T.nb->n<T.nb/\T.adj q n=true):=fun n hn=>(kV.1 hn).2;have NLE:=wA T.adj T.nb q T.nb;have SUC:=hZ (wB T s q);have L1E:Hid (lk1 T s q=(nbs T.adj T.nb q T.nb).map fun b=>(q,b,(s.q q b).length)):=rfl;have LLq:(jG T s q).length<=q*T.nb:=LL q;have hqq:q*T.nb<=64:=aA (eI (Nat.le_of_lt hlt) lZ) (aA (eI hnb hnb) (by omega));generalize nbs T.adj T.nb q T.nb=nl at *;go_wp2_with fail;refine NB.mono ?_;rintro e w1 ⟨v1,rfl,ho,g1⟩;obtain⟨xa,xk,rfl,hxa⟩:=gH ho;have G1:=hZ (Gr.call G.out g1);have O1:=hZ (gO O.out g1);have N1:=hZ ho;have HXA:=hZ hxa;have SZ:=G.size;clear NB ho g1 G O hxa;generalize hWR:wr=WR at *;clear hWR;go_wp2_with fail;go_loopw [3,19] (fun v i w6=>∃j:Nat,j<=nl.length/\i=.int .i64 j/\Hid (Gr w w6)/\Hid (w6.ownsRow WR.heap.size 3 1 (.slice xa nl.length xk) nl.length (kT nl))/\Hid (w6.ownsRow w.heap.size 94 3 v (jG T s q++(nl.take j).map fun b=>(q,b,(s.q q b).length)).length (lW (jG T s q++(nl.take j).map fun b=>(q,b,(s.q q b).length))))) (fun _ i _=>nl.length-(intOf i).toNat);case atStart=>exact⟨0,zZ,rfl,G1,N1,by show World.ownsRow _ _ _ _ _ _ _;simpa using O1.out⟩
   case round=>
    obtain⟨j,hj,rfl,G2,N2,O2⟩:=hrel;obtain⟨ya,ym,yk,rfl⟩:=gL O2.out;clear G1 N1 O1;by_cases hjl:j<nl.length
    ·obtain⟨xb,rfl⟩:=HXA (by omega);(have cq:wr.cell? ⟨xb,j,none⟩=some (.int .i64 (lG nl j)):=by rw[aH N2.out j (by omega)];simp[kT,lG,hjl]);have hmem:=NMEM _ (uT hjl);have T3:=HT.gr G2.out;obtain⟨qa,qc,hlu⟩:=T3.look hmem.2;have c2:=T3.b.c2;(have TK:Hid ((jG T s q++(nl.take (j+1)).map fun b=>(q,b,(s.q q b).length))=(jG T s q++(nl.take j).map fun b=>(q,b,(s.q q b).length))++[(q,lG nl j,(s.q q (lG nl j)).length)]):=by show _=_;rw[zH hjl,aS,aU];rfl);(have hlen:(jG T s q++(nl.take j).map fun b=>(q,b,(s.q q b).length)).length<=100:=by rw[aG,aB,dQ];omega);have hqn:=HM.q q (lG nl j);clear T3;generalize(jG T s q++(nl.take j).map fun b=>(q,b,(s.q q b).length))=pre at *;generalize lG nl j=n at *;generalize(s.q q n).length=ql at *;have hne:¬(none:Option Addr)=none->False:=fun h=>h rfl;go_wp2_with(at_builtin;refine wpList_append_own _ rfl _ _ 92 rfl w.heap.size 94 i0 (.agg #[.int .i64 0,.int .i64 0,.int .i64 0]) 3 24 underlying92 hi hz0 hz1 hz2 rfl (by decide) _ _ _ rfl (O2.alloc _) ⟨wr.heap.size,0,none⟩ 1 1 [.int .i64 q,.int .i64 n,.int .i64 ql] rfl rfl (World.news_of_block (fY _ _)) ?k2 ?k3 ?k4 ?k5 ?_);case k2=>exact⟨rfl,rfl,rfl⟩
     case k3=>unfold maxLen;omega
     case k4=>omega
     case k5=>have:=G2.size;simp;omega
     intro v5 w5 ho5 hg5 _;have G5:Hid (Gr w w5):=Below.grown (G2.alloc _) hg5 (aA G2.size (by simp)) (iC O2.out);have N5:Hid (w5.ownsRow WR.heap.size 3 1 (.slice (some ⟨xb,0,none⟩) nl.length xk) nl.length (kT nl)):=jI (N2.alloc _) hg5 (jJ O2.out N2.out (by decide));(have O5:Hid (w5.ownsRow w.heap.size 94 3 v5 (jG T s q++(nl.take (j+1)).map fun b=>(q,b,(s.q q b).length)).length (lW (jG T s q++(nl.take (j+1)).map fun b=>(q,b,(s.q q b).length)))):=by show World.ownsRow _ _ _ _ _ _ _;rw[TK.out,aG,Gl];exact ho5);obtain⟨za,zm,zk,rfl⟩:=gL ho5;clear ho5 hg5 O2 N2 G2 hlu cq;go_wp2_with fail;exact⟨⟨j+1,hjl,by simp,G5,N5,O5⟩,gD _ _ hjl⟩
    ·(have hje:j=nl.length:=by omega);subst hje;have O5:Hid (wr.ownsRow w.heap.size 94 3 (.slice ya ym yk) (jG T s (q+1)).length (lW (jG T s (q+1)))):=by have:=O2.out;rw[bB,<-L1E.out,<-SUC.out] at this;exact this
     clear O2 N2;go_wp2_with fail;exact⟨⟨q+1,hlt,by simp,G2,O5⟩,gD _ _ hlt⟩
  ·(have hqn:q=T.nb:=by omega);subst hqn;go_wp2_with fail;go_ret;exact⟨_,rfl,O.out,G.out⟩
def lat(l:List Lw)(i:Nat):Lw:=l.getD i (0,0,0)
theorem wD:∀(L:List Lw)(j:Nat),j<L.length->(lW L)[j*3]?=some (.int .i64 ((lat L j).1:Int))/\(lW L)[j*3+1]?=some (.int .i64 ((lat L j).2.1:Int))/\(lW L)[j*3+1+1]?=some (.int .i64 ((lat L j).2.2:Int))
 |[],j,h=>by simp at h
 |x::l,0,_=>by simp[lW,Mc,lat]
 |x::l,j+1,h=>by
  have ih:=wD l j (by simpa using h);have e:∀k,(lW (x::l))[(j+1)*3+k]?=(lW l)[j*3+k]?:=fun k=>by
   (have:(j+1)*3+k=(j*3+k)+3:=by omega);rw[this];simp[lW,Mc,List.getElem?_cons_succ]
  have hh:lat (x::l) (j+1)=lat l j:=by simp[lat]
  rw[hh];exact⟨(e 0).trans ih.1,(e 1).trans ih.2.1,(e 2).trans ih.2.2⟩
def xD(l:List Lw):Option Lw:=l.find? fun x=>decide (0<x.2.2)
theorem Mn{l:List Lw}{j:Nat}(hj:j<l.length)(h0:∀x∈l.take j,x.2.2=0)(h1:0<(lat l j).2.2):xD l=some (lat l j):=by
 have e:l=l.take j++lat l j::l.drop (j+1):=by
  have:lat l j=l[j]:=by simp[lat,hj]
  rw[this,<-cU hj,dZ]
 unfold xD
 conv=>lhs;rw[e]
 rw[List.find?_append];have:(l.take j).find? (fun x=>decide (0<x.2.2))=none:=by rw[List.find?_eq_none];intro x hx;rw[h0 x hx];simp
 rw[this];simp[h1]
theorem Ty{l:List Lw}(h0:∀x∈l,x.2.2=0):xD l=none:=by unfold xD;rw[List.find?_eq_none];intro x hx;rw[h0 x hx];simp
def Gz:Option Lw->Value
 |some x=>.tuple #[.agg #[.int .i64 (x.1:Int),.int .i64 (x.2.1:Int),.int .i64 (x.2.2:Int)],.bool true]
 |none=>.tuple #[.agg #[.int .i64 0,.int .i64 0,.int .i64 0],.bool false]
theorem Jm{s:Ts}{k:Nat}{x:Lw}(h:x∈jG T s k):x.1<k/\T.adj x.1 x.2.1=true/\x.2.2=(s.q x.1 x.2.1).length:=by simp only[jG,List.mem_flatMap,eF,lk1,aC] at h;obtain⟨a,ha,b,hb,rfl⟩:=h;exact⟨ha,(kV.1 hb).2.2,rfl⟩
theorem Pe(T:Tc)(r:Nat->Rl)(w:World)(cls:List Cl)(s:Ts)(hT:Tw T r w cls s)(hm:Sm T s):Calls prog 57 #[.pointer (some ⟨T.TB,0,none⟩)] w fun e w'=>e=.returned (Gz (xD (jG T s T.nb)))/\Gr w w':=by
 have ga:Gr w (w.alloc (.cells #[.int .i64 0,.int .i64 0,.int .i64 0] 94)):=(Gr.refl w).alloc _;have HB:=fY w (.cells #[.int .i64 0,.int .i64 0,.int .i64 0] 94);have LK:=hZ (Cu T r _ cls s (hT.gr ga) hm);have hnb:=hT.b.nb8;have LL:(jG T s T.nb).length<=64:=aA (uX T s T.nb) (aA (eI hnb hnb) (by omega));have LQ:Hid (∀x∈jG T s T.nb,x.2.2<549755813888):=fun x hx=>by rw[(Jm hx).2.2];exact hm.q _ _
 have GA:=hZ ga;have HHB:=hZ HB;clear hT hm ga HB;generalize jG T s T.nb=L at *;go_enter func57,ntmps57;go_wp2_with fail;refine LK.mono ?_;rintro e w1 ⟨v1,rfl,ho,g1⟩;obtain⟨xa,xk,rfl,hxa⟩:=gH ho;have G1:=hZ (Gr.call GA.out g1);have B1:=hZ (gK g1 HHB.out);have N1:=hZ ho;have HXA:=hZ hxa;clear LK ho g1 hxa GA HHB;go_wp2_with fail;go_loopw [9] (fun i wr=>∃j:Nat,j<=L.length/\i=.int .i64 j/\Hid (Gr w1 wr)/\Hid (∀x∈L.take j,x.2.2=0)) (fun i _=>L.length-(intOf i).toNat);case atStart=>exact⟨0,zZ,rfl,gZ,fun x hx=>by simp at hx⟩
 case round=>
  obtain⟨j,hj,rfl,G2,Z⟩:=hrel;have hB:=gK G2.out B1.out;have hws:=fZ hB;have G3:=hZ (Gr.call G1.out G2.out);have v0:wr.cell? ⟨w.heap.size,0,none⟩=some (.int .i64 0):=by rw[cZ hB];rfl
  have v1:wr.cell? ⟨w.heap.size,1,none⟩=some (.int .i64 0):=by rw[cZ hB];rfl
  have v2:wr.cell? ⟨w.heap.size,2,none⟩=some (.int .i64 0):=by rw[cZ hB];rfl
  have f0:∀j,wr.frozen? ⟨w.heap.size,j,none⟩=false:=fun j=>frozen_of_row _ _ _ _ _ hB;have HBB:=hZ hB;clear hB;by_cases hjl:j<L.length
  ·obtain⟨xb,rfl⟩:=HXA (by omega);have N2:=gO N1.out G2.out;obtain⟨d0,d1,d2⟩:=wD L j hjl;rw[<-aH N2 _ (by omega)] at d0 d1 d2;(have hmx:lat L j∈L:=by unfold lat;exact jZ hjl _);have hlq:=LQ _ hmx;have G4:=hZ (G2.alloc (.cells #[.int .i64 ((lat L j).1:Int),.int .i64 ((lat L j).2.1:Int),.int .i64 ((lat L j).2.2:Int)] 94));(have TK:Hid (L.take (j+1)=L.take j++[lat L j]):=by show _=_;rw[aW hjl];simp[lat,hjl]);have FH:=hZ (Mn hjl Z.out);clear N2 hmx;generalize lat L j=y at *;by_cases hy:0<y.2.2
   ·(have hy':(0:Int)<(y.2.2:Int):=by omega);have FV:=hZ (FH hy);have G5:=hZ (G3.alloc (.cells #[.int .i64 (y.1:Int),.int .i64 (y.2.1:Int),.int .i64 (y.2.2:Int)] 94));clear Z TK;go_wp2_with fail;refine bodyPost_ret (v:=Gz (some y)) (by simp[results,results57,go_sem,Gz,v0,v1,v2,hws]) rfl ⟨by rw[FV.out],?_⟩;exact Gr.alloc (a:=w) (Below.setCell (Below.setCell (Below.setCell G3.out (p:=⟨w.heap.size,0,none⟩) lZ _) (p:=⟨w.heap.size,1,none⟩) lZ _) (p:=⟨w.heap.size,2,none⟩) lZ _) _
   ·(have hy0:y.2.2=0:=by omega);have Z2:Hid (∀x∈L.take (j+1),x.2.2=0):=fun x hx=>by
     rw[TK.out] at hx;rcases aE.1 hx with hx|hx
     ·exact Z x hx
     ·rw[aM.1 hx];exact hy0
    clear Z TK FH v0 v1 v2 f0;rw[hy0] at d2 G4;go_wp2_with fail;exact⟨⟨j+1,hjl,by simp,G4,Z2⟩,gD _ _ hjl⟩
  ·(have hje:j=L.length:=by omega);subst hje;rw[bB] at Z;have FV:=hZ (Ty Z.out);go_wp2_with fail;refine bodyPost_ret (v:=Gz none) (by simp[results,results57,go_sem,Gz,v0,v1,v2]) rfl ⟨by rw[FV.out],?_⟩;exact Below.setCell (Below.setCell (Below.setCell G3.out (p:=⟨w.heap.size,0,none⟩) lZ _) (p:=⟨w.heap.size,1,none⟩) lZ _) (p:=⟨w.heap.size,2,none⟩) lZ _
theorem Rm(xs:List Value)(k:Nat)(a b c d:Value):(set4 xs k a b c d).length=xs.length:=by simp[set4]
theorem LnE.kp{LB:Nat}{vf' vw':Value}{Es:List EE}(h:LnE w base LB ve vew vf vw Es)(k:Kp tsF base w w')(hb:w'.heap[LB]?=some (.cells #[ve,vew,vf',vw'] 66 (0,0))):LnE w' base LB ve vew vf' vw' Es:=⟨h.lb,aA h.le k.size,hb,k.owns h.ownf (by decide),k.owns h.ownw (by decide),fun e he=>⟨(h.outs e he).1,k.kp _ _ _ _ (h.outs e he).2 (by decide)⟩,fun e he=>⟨(h.args e he).1,(h.args e he).2.1.kp k (by decide),(h.args e he).2.2⟩,h.nodup⟩
theorem LnE.gr{LB:Nat}{Fs:List EE}(h:LnE w base LB ve vew vf vw Fs)(g:Gr w w'):LnE w' base LB ve vew vf vw Fs:=h.kp (Kp.gr g h.le) (gK g h.box)
theorem Tryz.infoAttrA:(Tryz.prog.info? 86).map (fun i=>(i.zero,i.size,i.bytes))=some (some (.agg #[.string ⟨#[]⟩,.int .i64 0,.int .i64 0,.string ⟨#[]⟩]),4,48):=by kernel_rfl
theorem Tryz.infoSlAA:(Tryz.prog.info? 77).map (fun i=>(i.zero,i.size,i.bytes))=some (some (.slice none 0 0),1,24):=by kernel_rfl
theorem Tryz.infoSlRA:(Tryz.prog.info? 41).map (fun i=>(i.zero,i.size,i.bytes))=some (some (.slice none 0 0),1,24):=by kernel_rfl
theorem Tz(f:List Atr)(ad:Option Addr)(cap:Nat)(base LB:Nat)(ve vew vf vw:Value)(Fs:List EE)(w:World)(hne:f≠[])(hlen:f.length<=2932031007402)(hF:EvK base w ad f)(hwf:∀x∈f,Atr.Wf x)(hn:Fs.length<=1099511627776)(hL:LnE w base LB ve vew vf vw Fs):Calls prog 24 #[.pointer (some ⟨LB,0,none⟩),.slice ad f.length cap] w fun e w'=>∃g ve' vew',e=.returned (.slice (some ⟨g,0,none⟩) f.length (f.length+8))/\Kp tsE base w w'/\w.heap.size<=g /\LnE w' base LB ve' vew' vf vw (Fs++[⟨g,f,ad,cap⟩])/\(∀k,k<w.heap.size->k≠LB->some k≠ve.ownBlock->some k≠vew.ownBlock->w'.heap[k]?=w.heap[k]?)/\(∀q,ve'.ownBlock=some q->ve.ownBlock=some q\/w.heap.size<=q)/\∀q,vew'.ownBlock=some q->vew.ownBlock=some q\/w.heap.size<=q:=by
 obtain⟨i0,hi,hz0,hz1,hz2⟩:=info_parts Tryz.infoAttrA;obtain⟨i1,hi1,hz01,hz11,hz21⟩:=info_parts Tryz.infoSlAA;obtain⟨i2,hi2,hz02,hz12,hz22⟩:=info_parts Tryz.infoSlRA;have HL:Hid (LnE w base LB ve vew vf vw Fs):=hL;have HW:Hid (∀x∈f,Atr.Wf x):=hwf;have HN:Hid (f≠[]):=hne;have hpos:0<f.length:=by cases f<;>simp_all
 have hp0:((f.length:Int)==0)=false:=by simp;exact hne
 obtain⟨b,off,rfl,hbw,hb,hat⟩:=hF;have HB:Hid (b<base\/sI w b):=hb;have HBW:Hid (b<w.heap.size):=hbw;have HA:Hid (iP w b off f):=hat;clear hL hwf hne hat hb;go_enter func24,ntmps24;go_wp2_with(at_make;refine wpList_make_full _ rfl _ _ 77 rfl w.heap.size 86 i0 _ 4 underlying77 hi hz0 hz1 _ _ _ _ (f.length+8) rfl rfl (by omega) (by omega) ?b2 ?b3 ?b4 ?_);case b2=>rw[hz2];omega
 case b3=>unfold maxLen;omega
 case b4=>exact lZ
 intro w1 hown1 hgrow1;have g1:Gr w w1:=Below.grown (Gr.refl w) hgrow1 lZ (fun b hb=>by cases hb);have HO1:Hid (w1.ownsRow w.heap.size 86 4 (.slice (some ⟨w.heap.size,0,none⟩) (f.length+8) (f.length+8)) (f.length+8) _):=hown1;clear hown1 hgrow1;go_wp2;go_loopw [6] (fun i wr=>∃(q:Nat)(xs:List Value),q<=f.length+8/\i=.int .i64 q/\Gr w wr/\Hid (xs.take (q*4)=iK ((nS f).take q))/\Hid (wr.ownsRow w.heap.size 86 4 (.slice (some ⟨w.heap.size,0,none⟩) (f.length+8) (f.length+8)) (f.length+8) xs)) (fun i _=>f.length+8-(intOf i).toNat);case atStart=>exact⟨0,_,zZ,rfl,g1,rfl,HO1⟩
 case round=>
  obtain⟨q,xs,hq,rfl,g,HX,HO⟩:=hrel;have hxl:xs.length=(f.length+8)*4:=HO.1;by_cases hlt:q<f.length+8
  ·have O1:Hid (((((wr.setCell ⟨w.heap.size,q*4,none⟩ (.string ⟨#[115,112,97,114,101]⟩)).setCell ⟨w.heap.size,q*4+1,none⟩ (.int .i64 0)).setCell ⟨w.heap.size,q*4+1+1,none⟩ (.int .i64 0)).setCell ⟨w.heap.size,q*4+1+1+1,none⟩ (.string ⟨#[]⟩)).ownsRow w.heap.size 86 4 (.slice (some ⟨w.heap.size,0,none⟩) (f.length+8) (f.length+8)) (f.length+8) (set4 xs (q*4) (.string ⟨#[115,112,97,114,101]⟩) (.int .i64 0) (.int .i64 0) (.string ⟨#[]⟩))):=sR HO.out (q*4) _ _ _ _;have G1:Gr w ((((wr.setCell ⟨w.heap.size,q*4,none⟩ (.string ⟨#[115,112,97,114,101]⟩)).setCell ⟨w.heap.size,q*4+1,none⟩ (.int .i64 0)).setCell ⟨w.heap.size,q*4+1+1,none⟩ (.int .i64 0)).setCell ⟨w.heap.size,q*4+1+1+1,none⟩ (.string ⟨#[]⟩)):=xW lZ g _ _ _ _;obtain⟨r0,rc0⟩:=gQ HO.out (q*4) (by omega);have rf0:=aK HO.out (q*4);obtain⟨r1,rc1⟩:=gQ HO.out (q*4+1) (by omega);have rf1:=aK HO.out (q*4+1);obtain⟨r2,rc2⟩:=gQ HO.out (q*4+1+1) (by omega);have rf2:=aK HO.out (q*4+1+1);obtain⟨r3,rc3⟩:=gQ HO.out (q*4+1+1+1) (by omega);have rf3:=aK HO.out (q*4+1+1+1);by_cases hqf:q<f.length
   ·(have hbne:b≠w.heap.size:=by omega);have hbne':w.heap.size≠b:=by omega
    obtain⟨c1,c2,c3,c4⟩:=(HA.gr g hbw) q hqf;go_wp2_with fail;refine(rV _ _ _ _ _).mono ?_;rintro e w2 ⟨rfl,hb2⟩;have O2:Hid (w2.ownsRow w.heap.size 86 4 (.slice (some ⟨w.heap.size,0,none⟩) (f.length+8) (f.length+8)) (f.length+8) (set4 xs (q*4) (.string ⟨#[115,112,97,114,101]⟩) (.int .i64 0) (.int .i64 0) (.string ⟨#[]⟩))):=gO O1.out hb2;have G2:Gr w w2:=Gr.call G1 hb2;clear c1 c2 c3 c4 rc0 rf0 rc1 rf1 rc2 rf2 rc3 rf3 hb2 O1 G1;obtain⟨s0,sc0⟩:=gQ O2.out (q*4) (by omega);have sf0:=aK O2.out (q*4);obtain⟨s1,sc1⟩:=gQ O2.out (q*4+1) (by omega);have sf1:=aK O2.out (q*4+1);obtain⟨s2,sc2⟩:=gQ O2.out (q*4+1+1) (by omega);have sf2:=aK O2.out (q*4+1+1);obtain⟨s3,sc3⟩:=gQ O2.out (q*4+1+1+1) (by omega);have sf3:=aK O2.out (q*4+1+1+1);(have HX2:Hid ((set4 (set4 xs (q*4) (.string ⟨#[115,112,97,114,101]⟩) (.int .i64 0) (.int .i64 0) (.string ⟨#[]⟩)) (q*4) (.string (aat f q).a) (.int .i64 (aat f q).k) (.int .i64 (aat f q).n) (.string (aat f q).s)).take ((q+1)*4)=iK ((nS f).take (q+1))):=by show _=_;rw[show(q+1)*4=q*4+4 by omega,Li _ _ _ _ _ _ (by rw[Rm];omega),sE _ q (by rw[qF];omega),xR hqf];congr 1;rw[<-HX.out];unfold set4;rw[cX (by omega),cX (by omega),cX (by omega),cX (by omega)]);have O3:=sR O2.out (q*4) (.string (aat f q).a) (.int .i64 (aat f q).k) (.int .i64 (aat f q).n) (.string (aat f q).s);have G3:=xW lZ G2 (.string (aat f q).a) (.int .i64 (aat f q).k) (.int .i64 (aat f q).n) (.string (aat f q).s) (k:=q*4);have O3':Hid _:=O3;have G3':Hid _:=G3;clear O3 G3;go_wp2_with fail;go_roundw;case rel=>exact⟨q+1,_,by omega,by go_num,G3'.out,HX2,O3'⟩
    case measure=>simp[intOf];omega
   ·(have HX1:Hid ((set4 xs (q*4) (.string ⟨#[115,112,97,114,101]⟩) (.int .i64 0) (.int .i64 0) (.string ⟨#[]⟩)).take ((q+1)*4)=iK ((nS f).take (q+1))):=by show _=_;rw[show(q+1)*4=q*4+4 by omega,Li _ _ _ _ _ _ (by omega),HX.out,sE _ q (by rw[qF];omega),Cb hqf hlt];rfl);go_wp2_with fail;go_roundw;case rel=>exact⟨q+1,_,by omega,by go_num,G1,HX1,O1⟩
    case measure=>simp[intOf];omega
  ·(have hq8:q=f.length+8:=by omega);subst hq8;have HXS:Hid (xs=iK (nS f)):=by show _=_;have h:=HX.out;rw[aV (by omega),aV (by rw[qF];exact lZ)] at h;exact h
   (have HO':Hid (wr.ownsRow w.heap.size 86 4 (.slice (some ⟨w.heap.size,0,none⟩) (f.length+8) (f.length+8)) (f.length+8) (iK (nS f))):=by show World.ownsRow _ _ _ _ _ _ _;rw[<-HXS.out];exact HO.out);have L1:Hid (LnE wr base LB ve vew vf vw Fs):=HL.gr g;(have cf:wr.cell? ⟨LB,0,none⟩=some ve:=by rw[cZ L1.box];rfl);have ff:wr.frozen? ⟨LB,0,none⟩=false:=frozen_of_row _ _ _ _ _ L1.box;have hls:base<=wr.heap.size:=L1.le;have L0:Hid (LnE w base LB ve vew vf vw Fs):=HL;have HA0:Hid (iP w b off f):=HA;clear HX HO HXS HL HA;go_wp2_with(at_builtin;refine wpList_append_own_at _ rfl _ _ 33 rfl base 77 i1 _ 1 24 underlying33 hi1 hz01 hz11 hz21 rfl (by decide) _ _ _ rfl (L1.ownf.alloc _) ⟨wr.heap.size,0,none⟩ 1 1 [.slice (some ⟨w.heap.size,0,none⟩) (f.length+8) (f.length+8)] rfl rfl (cell_one_new _ _ _) ?d2 ?d3 ?d4 ?d5 ?_);case d2=>intro u hu;simp at hu;subst hu;rfl
   case d3=>unfold maxLen;omega
   case d4=>omega
   case d5=>simp;omega
   intro ve' w5 hown5 hgrow5 _ nb5;have VF:Hid (∀q,ve'.ownBlock=some q->ve.ownBlock=some q\/w.heap.size<=q):=fun q hq=>nb5.imp (fun e=>e.symm.trans hq) (fun e=>by rw[e] at hq;injection hq with hq;rw[<-hq];have:=g.size;omega);clear nb5;have KF5:Hid (∀k,k<w.heap.size->some k≠ve.ownBlock->w5.heap[k]?=w.heap[k]?):=fun k hk hn=>(hgrow5.block k (by rw[gX];have:=g.size;omega) hn).trans ((gF _ _ (aF hk g.size)).trans (g.block k hk));(have up:∀k o,wr.heap[k]?=some o->(wr.alloc (.cells #[.slice (some ⟨w.heap.size,0,none⟩) (f.length+8) (f.length+8)] 77)).heap[k]?=some o:=fun k o hk=>by rw[gF _ _ (fZ hk)];exact hk);have X5:Hid (w5.heap[LB]?=some (.cells #[ve,vew,vf,vw] 66 (0,0))):=gU hgrow5 (up _ _ L1.box) (jF L1.ownf L1.box (by decide));have W5:Hid (w5.ownsRow base 41 1 vew Fs.length (Fs.map EE.wc)):=jI (L1.ownw.alloc _) hgrow5 (jJ L1.ownf L1.ownw (by decide));have U5:Hid (∀e∈Fs,w5.heap[e.g]?=some (.cells (iK (nS e.f)).toArray 86 (0,0))):=fun e he=>gU hgrow5 (up _ _ (L1.outs e he).2) (jF L1.ownf (L1.outs e he).2 (by decide));have N5:Hid (w5.heap[w.heap.size]?=some (.cells (iK (nS f)).toArray 86 (0,0))):=gU hgrow5 (up _ _ (uO HO'.out)) (jF L1.ownf (uO HO'.out) (by decide));have G5:Kp tsE base w w5:=Kp.grown ((Kp.gr g L0.le).alloc hls _) (L1.ownf.alloc _) (by decide) hgrow5 (by simp;omega);(have O5:Hid (w5.ownsRow base 77 1 ve' (Fs++[(⟨w.heap.size,f,some ⟨b,off,none⟩,cap⟩:EE)]).length ((Fs++[(⟨w.heap.size,f,some ⟨b,off,none⟩,cap⟩:EE)]).map EE.fc)):=by show World.ownsRow _ _ _ _ _ _ _;rw[aG,aS];exact hown5);have z5:w.heap.size<w5.heap.size:=fZ N5.out;(have x5:w5.cell? ⟨LB,0,none⟩=some ve:=by rw[cZ X5.out];rfl);have y5:w5.frozen? ⟨LB,0,none⟩=false:=frozen_of_row _ _ _ _ _ X5.out;(have x6:w5.cell? ⟨LB,1,none⟩=some vew:=by rw[cZ X5.out];rfl);obtain⟨fa,fm,fk,rfl⟩:=gL hown5;clear hown5 hgrow5 up cf ff;have W6:Hid ((w5.setCell ⟨LB,0,none⟩ (.slice fa fm fk)).ownsRow base 41 1 vew Fs.length (Fs.map EE.wc)):=jX W5.out X5.out (by decide) _;go_wp2_with(at_builtin;refine wpList_append_own_at _ rfl _ _ 63 rfl base 41 i2 _ 1 24 underlying63 hi2 hz02 hz12 hz22 rfl (by decide) _ _ _ rfl (W6.alloc _) ⟨w5.heap.size,0,none⟩ 1 1 [.slice (some ⟨b,off,none⟩) f.length cap] rfl rfl ?k1 ?k2 ?k3 ?k4 ?k5 ?_);case k1=>rw[<-gY w5 ⟨LB,0,none⟩ (.slice fa fm fk)];exact cell_one_new _ _ _
   case k2=>intro u hu;simp at hu;subst hu;rfl
   case k3=>unfold maxLen;omega
   case k4=>omega
   case k5=>rw[gX,gY];have:=G5.size;have:=L0.le;omega
   intro vew' w6 hown6 hgrow6 _ nb6;have VW:Hid (∀q,vew'.ownBlock=some q->vew.ownBlock=some q\/w.heap.size<=q):=fun q hq=>nb6.imp (fun e=>e.symm.trans hq) (fun e=>by rw[e] at hq;injection hq with hq;rw[<-hq];omega);clear nb6;obtain⟨wa,wm,wk,rfl⟩:=gL hown6;have KF6:Hid (∀k,k<w.heap.size->k≠LB->some k≠ve.ownBlock->some k≠vew.ownBlock->(w6.setCell ⟨LB,1,none⟩ (.slice wa wm wk)).heap[k]?=w.heap[k]?):=fun k hk h1 h2 h3=>(Below.heap_setCell w6 ⟨LB,1,none⟩ _ k h1).trans ((hgrow6.block k (by rw[gX,gY];omega) h3).trans ((gF _ _ (by rw[gY];omega)).trans ((Below.heap_setCell w5 ⟨LB,0,none⟩ _ k h1).trans (KF5 k hk h2))));(have up:∀k o,(w5.setCell ⟨LB,0,none⟩ (.slice fa fm fk)).heap[k]?=some o->((w5.setCell ⟨LB,0,none⟩ (.slice fa fm fk)).alloc (.cells #[.slice (some ⟨b,off,none⟩) f.length cap] 41)).heap[k]?=some o:=fun k o hk=>by rw[gF _ _ (fZ hk)];exact hk);have Y5:=gI (j:=0) X5.out (.slice fa fm fk);(have hlbn:∀k cs fr,w5.heap[k]?=some (.cells cs 86 fr)->k≠LB:=fun k cs fr hk he=>by subst he;rw[X5.out] at hk;injection hk with hk;injection hk with _ hk;exact absurd hk (by decide));have X6:Hid (w6.heap[LB]?=some (.cells #[.slice fa fm fk,vew,vf,vw] 66 (0,0))):=gU hgrow6 (up _ _ Y5) (jF W6.out Y5 (by decide));have O6:Hid (w6.ownsRow base 77 1 (.slice fa fm fk) (Fs++[(⟨w.heap.size,f,some ⟨b,off,none⟩,cap⟩:EE)]).length ((Fs++[(⟨w.heap.size,f,some ⟨b,off,none⟩,cap⟩:EE)]).map EE.fc)):=jI ((jX O5.out X5.out (by decide) _).alloc _) hgrow6 (jJ W6.out (jX O5.out X5.out (by decide) _) (by decide));(have keepW:∀(k:Nat)(cs:Array Value),w5.heap[k]?=some (.cells cs 86 (0,0))->w6.heap[k]?=some (.cells cs 86 (0,0)):=fun k cs hk=>by have h1:=iY hk (p:=⟨LB,0,none⟩) (hlbn _ _ _ hk) (.slice fa fm fk);exact gU hgrow6 (up _ _ h1) (jF W6.out h1 (by decide)));(have hlbn6:∀k cs fr,w6.heap[k]?=some (.cells cs 86 fr)->k≠LB:=fun k cs fr hk he=>by subst he;rw[X6.out] at hk;injection hk with hk;injection hk with _ hk;exact absurd hk (by decide));have U6:Hid (∀e∈Fs++[(⟨w.heap.size,f,some ⟨b,off,none⟩,cap⟩:EE)],w6.heap[e.g]?=some (.cells (iK (nS e.f)).toArray 86 (0,0))):=fun e he=>by
    rcases aE.mp he with he|he
    ·exact keepW _ _ (U5 e he)
    ·simp only[aM] at he;subst he;exact keepW _ _ N5.out
   (have W7:Hid (w6.ownsRow base 41 1 (.slice wa wm wk) (Fs++[(⟨w.heap.size,f,some ⟨b,off,none⟩,cap⟩:EE)]).length ((Fs++[(⟨w.heap.size,f,some ⟨b,off,none⟩,cap⟩:EE)]).map EE.wc)):=by show World.ownsRow _ _ _ _ _ _ _;rw[aG,aS];exact hown6);have G6:Kp tsE base w w6:=Kp.grown ((Kp.set (j:=0) G5 X5.out (by decide) L0.lb (.slice fa fm fk)).alloc (by rw[gY];have:=G5.size;have:=L0.le;omega) _) (W6.alloc _) (by decide) hgrow6 (by rw[gX,gY];have:=G5.size;have:=L0.le;omega);have LN:Hid (LnE (w6.setCell ⟨LB,1,none⟩ (.slice wa wm wk)) base LB (.slice fa fm fk) (.slice wa wm wk) vf vw (Fs++[⟨w.heap.size,f,some ⟨b,off,none⟩,cap⟩])):=by
    refine⟨L0.lb,by rw[gY];exact aA L0.le G6.size,gI (j:=1) X6.out _,jX O6.out X6.out (by decide) _,jX W7.out X6.out (by decide) _,?_,?_,?_⟩
    ·intro e he;refine⟨?_,iY (U6 e he) (p:=⟨LB,1,none⟩) (hlbn6 _ _ _ (U6 e he)) _⟩
     ·rcases aE.mp he with he|he
      ·exact(L0.outs e he).1
      ·simp only[aM] at he;subst he;exact L0.le
    ·have GB:Kp tsE base w (w6.setCell ⟨LB,1,none⟩ (.slice wa wm wk)):=Kp.set (j:=1) G6 X6.out (by decide) L0.lb _;intro e he;rcases aE.mp he with he|he
     ·exact⟨(L0.args e he).1,(L0.args e he).2.1.kp GB (by decide),(L0.args e he).2.2⟩
     ·simp only[aM] at he;subst he;exact⟨HN.out,EvK.kp ⟨b,off,rfl,HBW.out,HB.out,HA0.out⟩ GB (by decide),HW.out⟩
    ·rw[aS,dF];refine⟨L0.nodup,by simp,?_⟩;intro x hx y hy;obtain⟨e,he,rfl⟩:=aC.mp hx;simp only[bH,dI,aM] at hy;have:=fZ (L0.outs e he).2;rw[hy];show e.g≠w.heap.size;omega
   have GL:Hid (Kp tsE base w (w6.setCell ⟨LB,1,none⟩ (.slice wa wm wk))):=Kp.set (j:=1) G6 X6.out (by decide) L0.lb _;(have x7:w6.cell? ⟨LB,1,none⟩=some vew:=by rw[cZ X6.out];rfl);have y7:w6.frozen? ⟨LB,1,none⟩=false:=frozen_of_row _ _ _ _ _ X6.out;clear hown6 hgrow6 up Y5 hlbn hlbn6 keepW x5 y5 x6 G5 G6 z5;go_wp2_with fail;go_ret;exact⟨_,_,_,rfl,GL.out,lZ,LN.out,KF6.out,VF.out,VW.out⟩
theorem Kd(ad:Option Addr)(cap:Nat)(p:Value)(w:World):Calls prog 24 #[p,.slice ad 0 cap] w fun e w'=>e=.returned (.slice none 0 0)/\w'=w:=by go_enter func24,ntmps24;go_wp2;go_ret;exact⟨rfl,rfl⟩
end Go.Proofs.YtecnfgikbmcgoabGreat
