import Derived.Test.YtecnfgikbmcgoabGreatG18
import Derived.Test.YtecnfgikbmcgoabGreatG17
set_option maxHeartbeats 8000000
set_option maxRecDepth 100000
namespace Go.Proofs.YtecnfgikbmcgoabGreat
open Go.Proofs.Tryz
open Go.RowKit
open Go.Maps (Keyed)
open Go.ChangeMaps (setBlock)
variable {Ms:List Nat}{T:Tc}{Xs:Nat->List Hm}{cls:List Cl}{es:List Ky}{i:Nat}{o2:Obj}{w w0 w3 wr:World}
def nCl(T:Tc)(s:Ts):Nat:=sm T.nb fun b=>((s.held b).filter fun h=>h.fr==-1).length
theorem xO{f g:Nat->Nat}:∀n,(∀i,i<n->f i=g i)->sm n f=sm n g
 |0,_=>rfl
 |n+1,h=>by show sm n f+f n=sm n g+g n;rw[xO n (fun i hi=>h i (Nat.lt_succ_of_lt hi)),h n (Nat.lt_succ_self n)]
theorem Zp{r:Nat->Rl}{qs:Nat->Nat->List Mm}{s:Ts}(h:Tm T r w Xs qs cls)(v:Vw T Xs qs s)(hs:∀b,b<T.nb->Srt (s.held b)):(sm T.nb fun b=>vX (Xs b))=nCl T s:=by
 refine xO T.nb fun b hb=>?_;obtain⟨es,clock,hp⟩:=h.hp hb;have:=Fx hp (L:=((s.held b).filter fun h=>h.fr==-1).map fun x=>x.key) (by rw[cB];exact(hs b hb).filter _) (fun k=>by
  rw[aC];constructor
  ·rintro⟨g,hg,rfl⟩;obtain⟨h1,h2⟩:=aY.1 hg;obtain⟨x,hx,rfl⟩:=(v.held b hb g).1 h1;exact⟨x,hx,by simpa using h2,rfl⟩
  ·rintro⟨x,hx,h1,rfl⟩;exact⟨x.1,aY.2 ⟨(v.held b hb x.1).2 ⟨x,hx,rfl⟩,by simpa using h1⟩,rfl⟩)
 rw[aB] at this;exact this.symm
theorem Cp{r:Nat->Rl}{qs:Nat->Nat->List Mm}{s:Ts}(h:Tm T r w Xs qs cls)(v:Vw T Xs qs s)(hs:∀b,b<T.nb->Srt (s.held b))(hm:Sm T s):Calls prog 41 #[.pointer (some ⟨T.TB,0,none⟩)] w fun e w'=>e=.returned (.int .i64 (nCl T s:Nat))/\Gr w w':=by
 have hh:Hs w T.TB T.HB 0 T.nb T.hcap (fun b=>if b<T.nb then Xs b else[]):=by refine⟨h.hs.c0,h.hs.tlt,h.hs.hlt,fun b hb=>?_⟩;obtain⟨MB,es,clock,h1,h2⟩:=h.hs.at' b hb;exact⟨MB,es,clock,h1,by rw[if_pos hb];exact h2⟩
 have e:(sm T.nb fun b=>vX (if b<T.nb then Xs b else[]))=nCl T s:=by rw[<-Zp h v hs];exact xO T.nb fun b hb=>by rw[if_pos hb]
 have:=sA T.TB T.HB 0 T.nb T.hcap _ w h.b.nb8 (fun b=>by
  by_cases hb:b<T.nb
  ·rw[if_pos hb];exact aA (vR h v hb) (hm.h b hb)
  ·rw[if_neg hb];simp) hh
 rw[e] at this;exact this
theorem Tryz.zeroHd(w:World):(zeroValue 124).run prog w=.ok (.agg #[.int .i64 0,.int .i64 0,.slice none 0 0,.int .i64 0]) w:=Tryz.zeroValue124 w
theorem Tk.find{r:Nat->Rl}(h:Tk T r w cls){x:Cl}(hx:x∈cls):(Instr.lookup 106 (.map (some T.CB)) (.int .i64 x.num) true).run prog w=.ok (.tuple #[.pointer (some ⟨x.blk,0,none⟩),.bool true]) w:=by obtain⟨es,clock,hmp⟩:=h.mp;obtain⟨lk,hlk⟩:=Zx x.num (h.num x hx).1;exact Mp.look_yes Tryz.keyedI underlying106 hmp hlk (aC.2 ⟨x,hx,rfl⟩) true
theorem Ul(T:Tc)(r:Nat->Rl)(w w3:World)(Xs:Nat->List Hm)(qs:Nat->Nat->List Mm)(cls:List Cl)(f:List Wnt)(ad:Option Addr)(cap:Nat)(hT:Tm T r w Xs qs cls)(G:Gr w w3)(hf:FiM w ad f):Calls prog 43 #[.slice ad f.length cap] w3 fun e w'=>∃g cp r4,e=.returned (.slice (some ⟨g,0,none⟩) f.length cp)/\(Tm T r4 w' Xs qs cls/\FiR r4 w' (some ⟨g,0,none⟩) f/\Fr r r4 w w')/\Gr w3 w':=by
 refine(wJ f ad cap w3 (hf.gr G)).mono ?_;rintro e w' ⟨v,rfl,ho,g1⟩;have hne:0<f.length:=List.length_pos_iff.2 (oU hf.ok).2;obtain⟨a,cp,rfl,hb⟩:=gH ho;obtain⟨g,rfl⟩:=hb hne;have hlow:=iC ho g rfl;have hlt:=qS ho;obtain⟨ad',cap',e1,hfa⟩:=Jg ho;injection e1 with e1 _ _;subst e1;have hw:=hT.b.ml.pos;have hs:=G.size;have T3:=(hT.gr (Gr.call G g1)).own (fun k=>if k=g then .fx else r k) (fun k hk=>by
  by_cases e:k=g
  ·subst e;exact absurd (hT.b.top k (by omega)) hk
  ·exact if_neg e) (by show(if 0=g then Rl.fx else r 0)=.no;rw[if_neg (by omega)];exact hT.b.r0) (fun k hk=>by rw[if_neg (by omega)];exact hT.b.top k (by have:=g1.size;omega))
 refine⟨g,cp,_,rfl,⟨T3,⟨⟨?_,hf.wf,hf.ok⟩,g,0,rfl,if_pos rfl⟩,?_⟩,g1⟩
 ·rcases hfa with h0|h0
  ·rw[h0] at hne;simp at hne
  ·exact h0
 ·have gg:=Gr.call G g1;exact⟨gg.os,gg.tape,gg.output,gg.size,fun k hk _=>gg.block k hk,fun k hk=>if_neg (by omega)⟩
theorem Eo(T:Tc)(r:Nat->Rl)(w:World)(cls:List Cl)(s:Ts)(x:Cl)(id:Int)(f:List Wnt)(ad:Option Addr)(cap:Nat)(hT:Tw T r w cls s)(hx:x∈cls)(hid:I64 id)(hf:FiM w ad f)(hs:∀b,b<T.nb->Srt (s.held b))(hn:∀g∈s.held x.at',g.key≠(x.num,id))(hm:Sm T s)(hc:nCl T s<64):Calls prog 18 #[.pointer (some ⟨T.TB,0,none⟩),.int .i64 x.num,.int .i64 id,.slice ad f.length cap] w fun e w'=>e=.returned (.int .i64 0)/\∃r',Tw T r' w' cls (s.turn cov T.adj x.at' (ins ⟨(x.num,id),f, -1⟩ (s.held x.at')))/\Fr r r' w w':=by
 obtain⟨Xs,qs,hT,hV⟩:=hT;have hnum:=(hT.k.num x hx).1;have hb:=(hT.k.num x hx).2;have hnb:=hT.b.nb8;have hlu:=hT.k.find hx;have c1:=hT.b.c1;obtain⟨fb,fo,rfl,hfb,hfa⟩:=hf.at';have hlen:=hf.len;have hchk:chk f=0:=by simp[chk,hf.ok]
 have CK:=hZ (sH f (some ⟨fb,fo,none⟩) cap w (by unfold maxLen;omega) (Or.inr ⟨fb,fo,rfl,hfb,hfa⟩) hf.wf);rw[hchk] at CK;have HT:=hZ hT;have HV:=hZ hV;have HF:=hZ hf;have HS:=hZ hs;have HN:=hZ hn;have HM:=hZ hm;have HC:=hZ hc;have HX:=hZ hx;have HI:=hZ (And.intro hnum hid);clear hT hV hf hs hn hm hc hx hnum hid hfa hchk;go_enter func18,ntmps18;go_wp2_with fail;refine CK.mono ?_;rintro e w1 ⟨rfl,g1⟩;have ga:=g1.alloc (.cells #[.int .i64 x.num,.int .i64 id] 97);have HB:=fY w1 (.cells #[.int .i64 x.num,.int .i64 id] 97);have hsz:(w1.alloc (.cells #[.int .i64 x.num,.int .i64 id] 97)).heap.size=w1.heap.size+1:=by simp
 have G1:=hZ ga;have HHB:=hZ HB;clear CK g1 ga HB hlu c1;go_wp2_with fail;generalize(w1.alloc (.cells #[.int .i64 x.num,.int .i64 id] 97))=W1 at *;have T1:=HT.gr G1.out;obtain⟨es,clock,hmp⟩:=(T1.h.at' x.at' hb).2;obtain⟨lk,hlk⟩:=Jv (x.num,id) HI.1 HI.2;have hno:∀v,(pk (x.num,id),v)∉(Xs x.at').map mv:=by intro v hv';obtain⟨y,hy,e⟩:=aC.1 hv';injection e with e1 e2;exact HN y.1 ((HV.held _ hb _).2 ⟨y,hy,rfl⟩) (mT e1)
 have gz:Gr W1 (W1.alloc (.cells #[.int .i64 0,.int .i64 0,.slice none 0 0,.int .i64 0] 124)):=(Gr.refl W1).alloc _;have hlu:=Mp.look_no Tryz.keyedK underlying111 (hmp.kept (w':=W1.drew) rfl) hlk hno Tryz.zeroHd true;have hlu2:=Mp.look_no Tryz.keyedK underlying111 (hmp.kept (w':=(W1.alloc (.cells #[.int .i64 0,.int .i64 0,.slice none 0 0,.int .i64 0] 124)).drew) (gz.block _ hmp.lt)) hlk hno Tryz.zeroHd true;unfold pk at hlu hlu2;have hTB:=T1.tlt;have hHB:=T1.hlt;have hws:w1.heap.size<W1.heap.size:=by omega
 have c0:=T1.b.c0;have cb:=T1.b.hb x.at' hb;obtain⟨hcr,hcb⟩:=T1.k.blk x HX.out;have hclt:=fZ hcb;have k0:W1.cell? ⟨w1.heap.size,0,none⟩=some (.int .i64 x.num):=by rw[cZ HHB.out];rfl
 have k1:W1.cell? ⟨w1.heap.size,1,none⟩=some (.int .i64 id):=by rw[cZ HHB.out];rfl
 have ka:W1.cell? ⟨x.blk,0,none⟩=some (.int .i64 x.at'):=by rw[cZ hcb];rfl
 have c0':=(gz.cell (p:=⟨T.TB,0,none⟩) hTB).trans c0;have cb':=(gz.cell (p:=⟨T.HB,x.at',none⟩) hHB).trans cb;have k0':=(gz.cell (p:=⟨w1.heap.size,0,none⟩) hws).trans k0;have k1':=(gz.cell (p:=⟨w1.heap.size,1,none⟩) hws).trans k1;have ka':=(gz.cell (p:=⟨x.blk,0,none⟩) hclt).trans ka;have HT1:=hZ T1;have HCB:=hZ hcb;clear T1 hmp hno gz hcr hcb;go_region;all_goals
  clear hlu hlu2 c0' cb' k0' k1' ka' c0 cb k0 k1 ka;have gz:Gr W1 (W1.alloc (.cells #[.int .i64 0,.int .i64 0,.slice none 0 0,.int .i64 0] 124)).drew:=((Gr.refl W1).alloc _).drew;have G2:=hZ (Gr.call G1.out gz);have HK2:=hZ (gK gz HHB.out);have T2:=HT1.gr gz;have FC:=Cp T2 HV.out HS.out HM.out;have HFC:=hZ FC;have hcc:=HC.out;clear gz T2 FC;go_wp2_with fail;generalize(W1.alloc (.cells #[.int .i64 0,.int .i64 0,.slice none 0 0,.int .i64 0] 124)).drew=W2 at *;refine HFC.mono ?_;rintro e w3 ⟨rfl,g3⟩;have G3:=hZ (Gr.call G2.out g3);have HK3:=hZ (gK g3 HK2.out);have hcc':¬(64:Int)<=(nCl T s:Int):=by omega
  clear HFC g3;have HCL3:=hZ ((HT.gr G3.out).k.blk x HX.out).2;have k0:w3.cell? ⟨w1.heap.size,0,none⟩=some (.int .i64 x.num):=by rw[cZ HK3.out];rfl
  have k1:w3.cell? ⟨w1.heap.size,1,none⟩=some (.int .i64 id):=by rw[cZ HK3.out];rfl
  have ka:w3.cell? ⟨x.blk,0,none⟩=some (.int .i64 x.at'):=by rw[cZ HCL3.out];rfl
  have CF:Hid (∀W,W=w3.drew->Calls prog 43 #[.slice (some ⟨fb,fo,none⟩) f.length cap] W fun e w'=>∃g cp r4,e=.returned (.slice (some ⟨g,0,none⟩) f.length cp)/\(Tm T r4 w' Xs qs cls/\FiR r4 w' (some ⟨g,0,none⟩) f/\Fr r r4 w w')/\w'.cell? ⟨w1.heap.size,0,none⟩=some (.int .i64 x.num)/\w'.cell? ⟨w1.heap.size,1,none⟩=some (.int .i64 id)/\w'.cell? ⟨x.blk,0,none⟩=some (.int .i64 x.at')):=by intro W e;subst e;refine(Ul T r w w3.drew Xs qs cls f _ cap HT.out G3.drew HF.out).mono ?_;rintro e w' ⟨g,cp,r4,h1,h2,h3⟩;have z1:=gK h3 (show w3.drew.heap[_]?=_ from HK3.out);have z2:=gK h3 (show w3.drew.heap[_]?=_ from HCL3.out);exact⟨g,cp,r4,h1,h2,by rw[cZ z1];rfl,by rw[cZ z1];rfl,by rw[cZ z2];rfl⟩
  go_wp2_with fail;go_region_with(first
   |(go_at_call 43;refine(CF _ rfl).mono ?_;rintro e w4 ⟨g,cp,r4,rfl,h4,k0',k1',ka'⟩)
   |(go_at_call 42;refine(Tr T r4 _ Xs qs cls s x.at' ⟨(x.num,id),f, -1⟩ (some ⟨g,0,none⟩) cp h4.1 HV.out hb h4.2.1 HI.out (HS _ hb) HN.out HM.out).mono ?_;rintro e w5 ⟨rfl,FE⟩))
  all_goals
   have FE2:=hZ FE;have H4:=hZ h4.2.2;clear FE h4 CF k0' k1' ka' k0 k1 ka;go_wp2_with fail;go_ret;obtain⟨r',z1,z2⟩:=FE2.out;exact⟨rfl,r',z1,H4.trans z2⟩
theorem Af(T:Tc)(r:Nat->Rl)(w:World)(cls:List Cl)(s:Ts)(x:Cl)(id:Int)(h:Hw)(hT:Tw T r w cls s)(hx:x∈cls)(hid:I64 id)(hs:Srt (s.held x.at'))(hh:h∈s.held x.at')(hk:h.key=(x.num,id))(hm:Sm T s):Calls prog 21 #[.pointer (some ⟨T.TB,0,none⟩),.int .i64 x.num,.int .i64 id] w fun e w'=>e=.returned (.int .i64 0)/\∃r',Tw T r' w' cls (s.turn cov T.adj x.at' (del h.key (s.held x.at')))/\Fr r r' w w':=by
 obtain⟨Xs,qs,hT,hV⟩:=hT;have hnum:=(hT.k.num x hx).1;have hb:=(hT.k.num x hx).2;have hnb:=hT.b.nb8;have hlu0:=hT.k.find hx;have c1:=hT.b.c1;obtain⟨⟨h',a',c'⟩,hy,rfl⟩:=(hV.held _ hb h).1 hh;have ga:Gr w (w.alloc (.cells #[.int .i64 x.num,.int .i64 id] 97)):=(Gr.refl w).alloc _;have HB:=fY w (.cells #[.int .i64 x.num,.int .i64 id] 97);have hsz:(w.alloc (.cells #[.int .i64 x.num,.int .i64 id] 97)).heap.size=w.heap.size+1:=by simp
 have HT:=hZ hT;have HV:=hZ hV;have HS:=hZ hs;have HH:=hZ hh;have HK:=hZ hk;have HM:=hZ hm;have HX:=hZ hx;have HY:=hZ hy;have HI:=hZ (And.intro hnum hid);have G1:=hZ ga;have HHB:=hZ HB;clear hT hV hs hh hk hm hx hy hnum hid ga HB;simp only at *;go_enter func21,ntmps21;go_wp2_with fail;generalize(w.alloc (.cells #[.int .i64 x.num,.int .i64 id] 97))=W1 at *;have T1:=HT.gr G1.out;obtain⟨es,clock,hmp⟩:=(T1.h.at' x.at' hb).2;obtain⟨lk,hlk⟩:=Jv (x.num,id) HI.1 HI.2;have hyes:(pk (x.num,id),.agg (hv h' a' c'))∈(Xs x.at').map mv:=by rw[<-HK.out];exact aC.2 ⟨_,HY.out,rfl⟩
 have gz:Gr W1 (W1.alloc (.cells #[.int .i64 0,.int .i64 0,.slice none 0 0,.int .i64 0] 124)):=(Gr.refl W1).alloc _;have hlu:=Mp.look_yes Tryz.keyedK underlying111 (hmp.kept (w':=W1.drew) rfl) hlk hyes true;have hlu2:=Mp.look_yes Tryz.keyedK underlying111 (hmp.kept (w':=(W1.alloc (.cells #[.int .i64 0,.int .i64 0,.slice none 0 0,.int .i64 0] 124)).drew) (gz.block _ hmp.lt)) hlk hyes true;unfold pk hv at hlu hlu2;have hTB:=T1.tlt;have hHB:=T1.hlt;have hws:w.heap.size<W1.heap.size:=by omega
 have c0:=T1.b.c0;have cb:=T1.b.hb x.at' hb;obtain⟨hcr,hcb⟩:=T1.k.blk x HX.out;have hclt:=fZ hcb;have k0:W1.cell? ⟨w.heap.size,0,none⟩=some (.int .i64 x.num):=by rw[cZ HHB.out];rfl
 have k1:W1.cell? ⟨w.heap.size,1,none⟩=some (.int .i64 id):=by rw[cZ HHB.out];rfl
 have ka:W1.cell? ⟨x.blk,0,none⟩=some (.int .i64 x.at'):=by rw[cZ hcb];rfl
 have c0':=(gz.cell (p:=⟨T.TB,0,none⟩) hTB).trans c0;have cb':=(gz.cell (p:=⟨T.HB,x.at',none⟩) hHB).trans cb;have k0':=(gz.cell (p:=⟨w.heap.size,0,none⟩) hws).trans k0;have k1':=(gz.cell (p:=⟨w.heap.size,1,none⟩) hws).trans k1;have ka':=(gz.cell (p:=⟨x.blk,0,none⟩) hclt).trans ka;clear T1 hmp hyes gz hcr hcb hlu0 c1;go_region;all_goals
  clear hlu hlu2 c0' cb' k0' k1' ka' c0 cb k0 k1 ka;have gz:Gr W1 (W1.alloc (.cells #[.int .i64 h'.key.1,.int .i64 h'.key.2,.slice a' h'.f.length c',.int .i64 h'.fr] 124)).drew:=((Gr.refl W1).alloc _).drew;have G2:=hZ (Gr.call G1.out gz);have HK2:=hZ (gK gz HHB.out);go_wp2_with fail;generalize(W1.alloc (.cells #[.int .i64 h'.key.1,.int .i64 h'.key.2,.slice a' h'.f.length c',.int .i64 h'.fr] 124)).drew=w3 at *;have HCL3:=hZ ((HT.gr G2.out).k.blk x HX.out).2;have k0:w3.cell? ⟨w.heap.size,0,none⟩=some (.int .i64 x.num):=by rw[cZ HK2.out];rfl
  have k1:w3.cell? ⟨w.heap.size,1,none⟩=some (.int .i64 id):=by rw[cZ HK2.out];rfl
  have ka:w3.cell? ⟨x.blk,0,none⟩=some (.int .i64 x.at'):=by rw[cZ HCL3.out];rfl
  have DR:Hid (∀W,W=w3.drew->Calls prog 48 #[.pointer (some ⟨T.TB,0,none⟩),.int .i64 x.at',.agg #[.int .i64 x.num,.int .i64 id]] W fun e w'=>e=.returned (.tuple #[])/\∃r',Tw T r' w' cls (s.turn cov T.adj x.at' (del h'.key (s.held x.at')))/\Fr r r' w w'):=by intro W e;subst e;have:=Uf T r w3.drew Xs qs cls s x.at' h' (HT.gr G2.drew) HV.out hb HS.out HH.out HM.out;rw[HK.out] at this ⊢;refine this.mono ?_;rintro e w' ⟨h1,r',h2,h3⟩;exact⟨h1,r',h2,(Fr.gr G2.drew).trans h3⟩
  clear gz;go_region_with(go_at_call 48;refine(DR _ rfl).mono ?_;rintro e w5 ⟨rfl,FE⟩);all_goals
   have FE2:=hZ FE;clear FE DR k0 k1 ka;go_wp2_with fail;go_ret;exact⟨rfl,FE2.out⟩
theorem Mp.put_any{P:Program}{kt et mt:TypeId}{B:Nat}{m:List (Value×Value)}{es:Array MapEntry}{clock:Nat}(K:Keyed P kt)(ht:P.underlying mt=some (.map kt et))(h:Mp P kt w B m es clock){k v:Value}{l:Lit}(hk:keyOf P kt k=some l):∃m' es' clock',(Instr.mapUpdate mt (.map (some B)) k v).run P w=.ok () (setBlock w B (.map es' clock'))/\Mp P kt (setBlock w B (.map es' clock')) B m' es' clock'/\∀k' v',(k',v')∈m'↔(k'=k/\v'=v)\/(k'≠k/\(k',v')∈m):=by
 by_cases hv:∃v0,(k,v0)∈m
 ·obtain⟨v0,hv⟩:=hv;obtain⟨es',m1,m2,hm,h1,h2⟩:=Mp.put_old (v:=v) K ht h hk hv;refine⟨_,es',clock,h1,h2,fun k' v'=>?_⟩;have hd:=h.nod;rw[hm] at hd;have hne:∀y:Value×Value,y∈m1\/y∈m2->y.1≠k:=by
   intro y hy;simp only[aS,bH] at hd;rw[dF] at hd;obtain⟨_,d2,d3⟩:=hd;rcases hy with hy|hy
   ·exact d3 _ (aC.2 ⟨y,hy,rfl⟩) k (by simp)
   ·exact fun e=>(fB.1 d2).1 (aC.2 ⟨y,hy,e⟩)
  rw[hm];simp only[aE,aN,cP];constructor
  ·rintro(h3|⟨h3,h4⟩|h3)
   ·exact Or.inr ⟨hne _ (Or.inl h3),Or.inl h3⟩
   ·exact Or.inl ⟨h3,h4⟩
   ·exact Or.inr ⟨hne _ (Or.inr h3),Or.inr (Or.inr h3)⟩
  ·rintro(⟨h3,h4⟩|⟨h3,h4|⟨h4,h5⟩|h4⟩)
   ·exact Or.inr (Or.inl ⟨h3,h4⟩)
   ·exact Or.inl h4
   ·exact absurd h4 h3
   ·exact Or.inr (Or.inr h4)
 ·have hv':∀v,(k,v)∉m:=fun v0 h0=>hv ⟨v0,h0⟩;obtain⟨h1,h2⟩:=Mp.put_new (v:=v) K ht h hk hv';refine⟨_,_,_,h1,h2,fun k' v'=>?_⟩;simp only[aE,aM,cP];constructor
  ·rintro(h3|⟨h3,h4⟩)
   ·exact Or.inr ⟨fun e=>hv' v' (by rw[<-e];exact h3),h3⟩
   ·exact Or.inl ⟨h3,h4⟩
  ·rintro(⟨h3,h4⟩|⟨h3,h4⟩)
   ·exact Or.inr ⟨h3,h4⟩
   ·exact Or.inl h4
theorem qD{base n size:Nat}{e:TypeId}{v:Value}{xs:List Value}(h:w.ownsRow base e size v n xs){k:Nat}(hk:v.ownBlock=some k):∃cur,w.heap[k]?=some (.cells cur e (0,0)):=by
 rcases h.2 with⟨rfl,_⟩|⟨g,cap,cur,rfl,_,hg,_⟩
 ·simp[Value.ownBlock] at hk
 ·simp[Value.ownBlock] at hk;subst hk;exact⟨cur,hg⟩
theorem Tryz.infoMapH:(Tryz.prog.info? 111).map (fun i=>(i.zero,i.size,i.bytes))=some (some (.map none),1,8):=by kernel_rfl
def Cf(l:List Nat):List Value:=l.map fun b=>.map (some b)
structure Nw(w0:World)(TB CB LB:Nat)(v:Value)(q:Nat)(Ms:List Nat)(wr:World):Prop where
 gr:Gr w0 wr
 tb:wr.heap[TB]?=some (.cells #[v,.map (some CB),.map (some LB)] 110 (0,0))
 cb:wr.heap[CB]?=some (.map #[] 0)
 lb:wr.heap[LB]?=some (.map #[] 0)
 row:wr.ownsRow w0.heap.size 111 1 v q (Cf Ms)
 len:Ms.length=q
 ms:∀b∈Ms,wr.heap[b]?=some (.map #[] 0)/\TB<b
 nd:Ms.Nodup
theorem Nw.put{TB CB LB:Nat}{v:Value}{q:Nat}(h:Nw w0 TB CB LB v q Ms wr)(hT:w0.heap.size<=TB)(_hC:w0.heap.size<=CB)(_hL:w0.heap.size<=LB){v':Value}(g3:((wr.alloc (.map #[] 0)).alloc o2).grownBy w3 v.ownBlock)(ho:w3.ownsRow w0.heap.size 111 1 v' (q+1) (Cf Ms++[.map (some wr.heap.size)])):Nw w0 TB CB LB v' (q+1) (Ms++[wr.heap.size]) (w3.setCell ⟨TB,0,none⟩ v'):=by
 have old:∀k o,wr.heap[k]?=some o->some k≠v.ownBlock->w3.heap[k]?=some o:=by intro k o hk hn;have hl:=fZ hk;rw[g3.block k (by simp;omega) hn,gF _ _ (by simp;omega),gF _ _ hl];exact hk
 have nmap:∀k,wr.heap[k]?=some (.map #[] 0)->some k≠v.ownBlock:=by intro k hk e;obtain⟨cur,hc⟩:=qD h.row e.symm;rw[hk] at hc;cases hc
 have nT:some TB≠v.ownBlock:=fun e=>by obtain⟨cur,hc⟩:=qD h.row e.symm;rw[h.tb] at hc;injection hc with hc;injection hc with _ hc _;revert hc;decide
 have hTB:=old _ _ h.tb nT;have hTl:=fZ h.tb;have hnew:w3.heap[wr.heap.size]?=some (.map #[] 0):=by rw[g3.block _ (by simp;omega) (fun e=>by obtain⟨cur,hc⟩:=qD h.row e.symm;have:=fZ hc;omega),gF _ _ (by simp)];exact fY wr _
 have hne:∀k o,w3.heap[k]?=some o->k≠TB->(w3.setCell ⟨TB,0,none⟩ v').heap[k]?=some o:=fun k o hk hn=>(Below.heap_setCell w3 _ v' k hn).trans hk;have hmT:∀k,wr.heap[k]?=some (.map #[] 0)->k≠TB:=fun k hk e=>by rw[e,h.tb] at hk;cases hk
 refine⟨?_,?_,hne _ _ (old _ _ h.cb (nmap _ h.cb)) (hmT _ h.cb),hne _ _ (old _ _ h.lb (nmap _ h.lb)) (hmT _ h.lb),?_,by simp[h.len],fun b hb=>?_,?_⟩
 ·refine Below.setCell ?_ (p:=⟨TB,0,none⟩) hT _;exact Below.grown (((h.gr.alloc _).alloc _)) g3 (by have:=h.gr.size;simp;omega) (iC h.row)
 ·rw[heap_setCell_same _ _ _ _ _ _ hTB];rfl
 ·have:Cf (Ms++[wr.heap.size])=Cf Ms++[.map (some wr.heap.size)]:=by simp[Cf]
  rw[this];exact jX ho hTB (by decide) v'
 ·rcases aE.1 hb with hb|hb
  ·have:=h.ms b hb;exact⟨hne _ _ (old _ _ this.1 (nmap _ this.1)) (hmT _ this.1),this.2⟩
  ·rw[aM.1 hb];exact⟨hne _ _ hnew (by omega),hTl⟩
 ·rw[dF];refine⟨h.nd,by simp,fun a ha b hb e=>?_⟩;rw[aM.1 hb] at e;have:=fZ (h.ms a ha).1;omega
theorem Nw.tb3{TB CB LB:Nat}{v:Value}{q:Nat}(h:Nw w0 TB CB LB v q Ms wr)(g3:((wr.alloc (.map #[] 0)).alloc o2).grownBy w3 v.ownBlock):w3.heap[TB]?=some (.cells #[v,.map (some CB),.map (some LB)] 110 (0,0)):=by
 have nT:some TB≠v.ownBlock:=fun e=>by obtain⟨cur,hc⟩:=qD h.row e.symm;rw[h.tb] at hc;injection hc with hc;injection hc with _ hc _;revert hc;decide
 have hl:=fZ h.tb;rw[g3.block TB (by simp;omega) nT,gF _ _ (by simp;omega),gF _ _ hl];exact h.tb
structure Nl(m:List (Value×Value))(es:List Ky):Prop where
 of:∀k v,(k,v)∈m->v=.slice none 0 0/\∃e∈es,k=pk e\/k=pk (e.2,e.1)
 all:∀e∈es,(∃v,(pk e,v)∈m)/\∃v,(pk (e.2,e.1),v)∈m
theorem Nl.step{m m1 m2:List (Value×Value)}{e:Ky}(h:Nl m es)(h1:∀k' v',(k',v')∈m1↔(k'=pk e/\v'=.slice none 0 0)\/(k'≠pk e/\(k',v')∈m))(h2:∀k' v',(k',v')∈m2↔(k'=pk (e.2,e.1)/\v'=.slice none 0 0)\/(k'≠pk (e.2,e.1)/\(k',v')∈m1)):Nl m2 (es++[e]):=by
 have key:∀k,(∃v,(k,v)∈m2)↔k=pk (e.2,e.1)\/k=pk e\/∃v,(k,v)∈m:=by
  intro k;constructor
  ·rintro⟨v,hv⟩;rcases(h2 k v).1 hv with⟨a,_⟩|⟨_,hv⟩
   ·exact Or.inl a
   ·rcases(h1 k v).1 hv with⟨a,_⟩|⟨_,hv⟩
    ·exact Or.inr (Or.inl a)
    ·exact Or.inr (Or.inr ⟨v,hv⟩)
  ·intro hk;by_cases e2:k=pk (e.2,e.1)
   ·exact⟨_,(h2 k _).2 (Or.inl ⟨e2,rfl⟩)⟩
   ·by_cases e1:k=pk e
    ·exact⟨_,(h2 k _).2 (Or.inr ⟨e2,(h1 k _).2 (Or.inl ⟨e1,rfl⟩)⟩)⟩
    ·rcases hk with a|a|⟨v,hv⟩
     ·exact absurd a e2
     ·exact absurd a e1
     ·exact⟨v,(h2 k v).2 (Or.inr ⟨e2,(h1 k v).2 (Or.inr ⟨e1,hv⟩)⟩)⟩
 refine⟨fun k v hv=>?_,fun x hx=>?_⟩
 ·rcases(h2 k v).1 hv with⟨a,b⟩|⟨_,hv⟩
  ·exact⟨b,e,by simp,Or.inr a⟩
  ·rcases(h1 k v).1 hv with⟨a,b⟩|⟨_,hv⟩
   ·exact⟨b,e,by simp,Or.inl a⟩
   ·obtain⟨a,x,hx,hxk⟩:=h.of k v hv;exact⟨a,x,by simp[hx],hxk⟩
 ·rw[key,key];rcases aE.1 hx with hx|hx
  ·exact⟨Or.inr (Or.inr (h.all x hx).1),Or.inr (Or.inr (h.all x hx).2)⟩
  ·rw[aM.1 hx];exact⟨Or.inr (Or.inl rfl),Or.inl rfl⟩
theorem Mo{w4:World}{TB CB LB nb:Nat}{v:Value}(ml:Int)(h:Nw w0 TB CB LB v nb Ms w4)(hT:w0.heap.size<=TB)(hC:CB<TB)(hC0:w0.heap.size<=CB)(hL:LB<TB)(hL0:w0.heap.size<=LB)(hCL:CB≠LB)(hml:Ml ml w0)(hn1:1<=nb)(hn8:nb<=8){adj:Nat->Nat->Bool}(hadj:∀a b,adj a b=true->a<nb/\b<nb)(hE:∀a b,adj a b=true↔oX es a b)(hes:∀e∈es,∃a b:Nat,e=((a:Int),(b:Int)))(g:w4.grownBy wr (some LB)){m:List (Value×Value)}{esm:Array MapEntry}{ck:Nat}(hm:Mp prog 30 wr LB m esm ck)(hNl:Nl m es):∃HB hcap MB r,Tw ⟨nb,adj,TB,HB,hcap,MB,CB,LB,ml⟩ r wr [] (TS.none (List Wnt) (List Atr))/\Fr (fun _=>.no) r w0 wr:=by
 obtain⟨va,hcap,rfl,hva⟩:=gH h.row;obtain⟨HB,rfl⟩:=hva (by omega);have hHlow:=iC h.row HB rfl;have hHlt:=qS h.row;obtain⟨cur,hHc⟩:=qD h.row (k:=HB) rfl;have eq4:∀k o,w4.heap[k]?=some o->k≠LB->wr.heap[k]?=some o:=fun k o hk hn=>(g.block k (fZ hk) (fun e=>hn (by injection e))).trans hk;have hHL:HB≠LB:=fun e=>by rw[e,h.lb] at hHc;cases hHc
 have hHC:HB≠CB:=fun e=>by rw[e,h.cb] at hHc;cases hHc
 have hHT:HB≠TB:=fun e=>by rw[e,h.tb] at hHc;injection hHc with hc;injection hc with _ hc _;revert hc;decide
 have hHM:∀b∈Ms,b≠HB:=fun b hb e=>by have:=(h.ms b hb).1;rw[e,hHc] at this;cases this
 have hml0:=hml.pos;have tb:=eq4 _ _ h.tb (by omega);have gr0:∀k,k<w0.heap.size->wr.heap[k]?=w0.heap[k]?:=fun k hk=>(g.block k (aF hk h.gr.size) (fun e=>by injection e with e;omega)).trans (h.gr.block k hk);have hsz:w0.heap.size<=wr.heap.size:=aA h.gr.size g.size;have mg:∀b,b<nb->lG Ms b∈Ms:=fun b hb=>uT (by rw[h.len];exact hb);have role:∃r:Nat->Rl,r TB=.fx/\r HB=.fx/\r CB=.cm/\r LB=.lm/\(∀b,b<nb->r (lG Ms b)=.hm b)/\(∀k,k<w0.heap.size->r k=.no)/\∀k,wr.heap.size<=k->r k=.no:=by
  refine⟨fun k=>if k=TB\/k=HB then .fx else if k=CB then .cm else if k=LB then .lm else if k∈Ms then .hm (Ms.idxOf k) else .no,by simp,by simp,?_,?_,fun b hb=>?_,fun k hk=>?_,fun k hk=>?_⟩
  ·show(if CB=TB\/CB=HB then _ else _)=_;rw[if_neg (by omega),if_pos rfl]
  ·show(if LB=TB\/LB=HB then _ else _)=_;rw[if_neg (by omega),if_neg (by omega),if_pos rfl]
  ·have h1:=h.ms _ (mg b hb);have h2:=hHM _ (mg b hb);simp only;rw[if_neg (by omega),if_neg (by omega),if_neg (by omega),if_pos (mg b hb)];congr 1;unfold lG;rw[aI,aJ (by rw[h.len];exact hb)];simp only[eV];exact List.Nodup.idxOf_getElem h.nd _ _
  ·simp only;rw[if_neg (by omega),if_neg (by omega),if_neg (by omega),if_neg (fun hm=>by have:=(h.ms k hm).2;omega)]
  ·have l1:=fZ tb;have l2:=fZ (eq4 _ _ hHc hHL);simp only;rw[if_neg (by omega),if_neg (by omega),if_neg (by omega),if_neg (fun hm=>by have:=fZ (h.ms k hm).1;have:=g.size;omega)]
 obtain⟨r,r1,r2,r3,r4,r5,r6,r7⟩:=role;refine⟨HB,hcap,lG Ms,r,⟨fun _=>[],fun _ _=>[],⟨⟨hn8,hn1,hadj,?_,?_,?_,r1,r2,fun b hb=>?_,r7,r6 0 hml0,?_⟩,⟨fun b hb=>⟨r5 b hb,#[],0,?_⟩,fun b hb x hx=>(by cases hx)⟩,⟨r4,⟨m,esm,ck,hm,fun k u hu=>?_,fun a b hab=>?_⟩,fun a b x hx=>(by cases hx),fun a b hf=>rfl⟩,⟨r3,⟨#[],0,?_⟩,fun c hc=>(by cases hc),fun c hc=>(by cases hc),fun c hc=>(by cases hc),fun c hc=>(by cases hc)⟩⟩,⟨fun b hb x=>?_,fun a b=>rfl⟩⟩,?_⟩
 ·show wr.cell? ⟨TB,0,none⟩=_;rw[cZ tb];rfl
 ·show wr.cell? ⟨TB,1,none⟩=_;rw[cZ tb];rfl
 ·show wr.cell? ⟨TB,2,none⟩=_;rw[cZ tb];rfl
 ·have hb:b<nb:=hb;show wr.cell? ⟨HB,b,none⟩=_;rw[World.cell?_of_block (w:=w4) (a:=⟨HB,b,none⟩) (g.block HB hHlt (fun e=>hHL (by injection e))),aH h.row b (by omega)];simp[Cf,lG,show b<Ms.length by rw[h.len];exact hb]
 ·exact⟨by rw[hN (gr0 0 hml0)];exact hml.cell,aF hml0 hsz⟩
 ·have h1:=h.ms _ (mg b hb);exact⟨eq4 (lG Ms b) _ h1.1 (by omega),rfl,by simp,by simp,by simp,by simp⟩
 ·obtain⟨hv,e,he,hk⟩:=hNl.of k u hu;obtain⟨a,b,rfl⟩:=hes e he;subst hv;rcases hk with hk|hk
  ·exact⟨a,b,hk,(hE a b).2 (Or.inl he),Qr.nil _ _ _ _⟩
  ·exact⟨b,a,hk,(hE b a).2 (Or.inr he),Qr.nil _ _ _ _⟩
 ·rcases(hE a b).1 hab with h1|h1
  ·exact(hNl.all _ h1).1
  ·exact(hNl.all _ h1).2
 ·exact⟨eq4 _ _ h.cb hCL,rfl,by simp,by simp,by simp,by simp⟩
 ·simp[TS.none]
 ·exact⟨g.os.trans h.gr.os,g.tape.trans h.gr.tape,g.output.trans h.gr.output,hsz,fun k hk _=>gr0 k hk,fun k hk=>r6 k hk⟩
theorem Om(w:World):(Instr.makeMap 106 none).run prog w=.ok (.map (some w.heap.size)) (w.alloc (.map #[] 0)):=run_makeMap _ w
theorem Wz(w:World):(Instr.makeMap 107 none).run prog w=.ok (.map (some w.heap.size)) (w.alloc (.map #[] 0)):=run_makeMap _ w
theorem Zr(w:World):(Instr.makeMap 111 none).run prog w=.ok (.map (some w.heap.size)) (w.alloc (.map #[] 0)):=run_makeMap _ w
theorem xZ(h:i<es.length):eat es i∈es:=by unfold eat;exact jZ h _
theorem sC(h:i<es.length):es.take (i+1)=es.take i++[eat es i]:=by rw[aW h];simp[eat,h]
theorem Vg(nb:Nat)(es:List Ky)(ad:Option Addr)(cap:Nat)(w:World)(adj:Nat->Nat->Bool)(ml:Int)(hl:es.length<=8)(h:pW w ad es)(hI:∀e∈es,I64 e.1/\I64 e.2)(ht:jD nb es=true)(hn1:1<=nb)(hn8:nb<=8)(hadj:∀a b,adj a b=true->a<nb/\b<nb)(hE:∀a b,adj a b=true↔oX es a b)(hes:∀e∈es,∃a b:Nat,e=((a:Int),(b:Int)))(hml:Ml ml w):Calls prog 13 #[.int .i64 nb,.slice ad es.length cap] w fun e w'=>∃TB HB hcap MB CB LB r,e=.returned (.tuple #[.pointer (some ⟨TB,0,none⟩),.int .i64 0])/\Tw ⟨nb,adj,TB,HB,hcap,MB,CB,LB,ml⟩ r w' [] (TS.none (List Wnt) (List Atr))/\Fr (fun _=>.no) r w w':=by
 obtain⟨i0,hi,hz0,hz1,hz2⟩:=info_parts Tryz.infoMapH;have IS:=hZ (zS nb es ad cap w (by unfold maxLen;omega) h hI);rw[ht] at IS;have HE:=hZ h;have HI:=hZ hI;have HED:=hZ hE;have HES:=hZ hes;have HML:=hZ hml;have HAD:=hZ hadj;clear h hI ht hE hes hml hadj;go_enter func13,ntmps13;go_wp2_with fail;refine IS.mono ?_;rintro e w1 ⟨rfl,g1⟩;have G1:=hZ g1;have hmc:=Om;have hml:=Wz;have hmh:=Zr;clear IS g1;go_wp2_with fail;have N0:Hid (Nw w1 (w1.heap.size+2) w1.heap.size (w1.heap.size+1) (.slice none 0 0) 0 [] (((w1.alloc (.map #[] 0)).alloc (.map #[] 0)).alloc (.cells #[.slice none 0 0,.map (some w1.heap.size),.map (some (w1.heap.size+1))] 110))):=by
  refine⟨((((Gr.refl w1).alloc _).alloc _).alloc _),?_,?_,?_,bF _ _ _ _,rfl,fun b hb=>(by cases hb),List.nodup_nil⟩
  ·exact jN (by simp)
  ·rw[gF _ _ (by simp;omega),gF _ _ (by simp)];exact fY w1 _
  ·rw[gF _ _ (by simp)];exact jN (by simp)
 go_loopw [18] (fun i wr=>∃(q:Nat)(v:Value)(Ms:List Nat),q<=nb/\i=.int .i64 q/\Hid (Nw w1 (w1.heap.size+2) w1.heap.size (w1.heap.size+1) v q Ms wr)) (fun i _=>nb-(intOf i).toNat);case atStart=>exact⟨0,_,[],zZ,rfl,N0⟩
 case round=>
  obtain⟨q,v,Ms,hq,rfl,NW⟩:=hrel;clear N0;obtain⟨va,vk,rfl,hva⟩:=gH NW.row;by_cases hlt:q<nb
  ·have tb:=NW.tb;(have t0:wr.cell? ⟨w1.heap.size+2,0,none⟩=some (.slice va q vk):=by rw[cZ tb];rfl);have f0:wr.frozen? ⟨w1.heap.size+2,0,none⟩=false:=frozen_of_row _ _ _ _ _ tb;have htl:=fZ tb;have O2:=NW.row;have SZ:=NW.gr.size;clear tb hva;go_wp2_with(at_builtin;refine wpList_append_own _ rfl _ _ 108 rfl w1.heap.size 111 i0 (.map none) 1 8 underlying108 hi hz0 hz1 hz2 rfl (by decide) _ _ _ rfl ((O2.alloc _).alloc _) ⟨wr.heap.size+1,0,none⟩ 1 1 [.map (some wr.heap.size)] rfl rfl (World.news_of_block (jN (by simp))) ?k2 ?k3 ?k4 ?k5 ?_);case k2=>first|rfl|(intro t ht;simp at ht;subst ht;rfl)
   case k3=>unfold maxLen;omega
   case k4=>omega
   case k5=>simp;omega
   intro v5 w5 ho5 hg5 _;have NP:=hZ (NW.put (by omega) (by omega) (by omega) hg5 ho5);obtain⟨za,zm,zk,rfl⟩:=gL ho5;have tb5:=NW.tb3 hg5;(have t5:w5.cell? ⟨w1.heap.size+2,0,none⟩=some (.slice va q vk):=by rw[cZ tb5];rfl);have f5:w5.frozen? ⟨w1.heap.size+2,0,none⟩=false:=frozen_of_row _ _ _ _ _ tb5;clear hg5 ho5 O2 tb5;go_wp2_with fail;exact⟨⟨q+1,_,_,hlt,by simp,NP⟩,gD _ _ hlt⟩
  ·(have hqe:q=nb:=by omega);subst hqe;have L0:Hid (∃m esm ck,Mp prog 30 wr (w1.heap.size+1) m esm ck/\Nl m (es.take 0)):=⟨[],#[],0,⟨NW.lb,rfl,by simp,by simp,by simp,by simp⟩,⟨fun k v hv=>(by cases hv),fun e he=>(by simp at he)⟩⟩;go_wp2_with fail;generalize hW4:wr=W4 at *;clear hW4;go_loopw [33] (fun i wr=>∃j:Nat,j<=es.length/\i=.int .i64 j/\Hid (W4.grownBy wr (some (w1.heap.size+1)))/\Hid (∃m esm ck,Mp prog 30 wr (w1.heap.size+1) m esm ck/\Nl m (es.take j))) (fun i _=>es.length-(intOf i).toNat);case atStart=>exact⟨0,zZ,rfl,⟨rfl,rfl,rfl,lZ,fun _ _ _=>rfl⟩,L0⟩
   case round=>
    obtain⟨j,hj,rfl,GW,LM⟩:=hrel;clear L0;have tb4:=(GW.block _ (fZ NW.tb) (fun e=>by injection e with e;omega)).trans NW.tb;by_cases hjl:j<es.length
    ·obtain⟨b,off,rfl,hbw,hat⟩:∃b off,ad=some ⟨b,off,none⟩/\b<w.heap.size/\∀i,i<es.length->w.cell? ⟨b,off+i*2,none⟩=some (.int .i64 (eat es i).1)/\w.cell? ⟨b,off+i*2+1,none⟩=some (.int .i64 (eat es i).2):=by
      rcases HE.out with h0|h0
      ·rw[h0] at hjl;simp at hjl
      ·exact h0
     obtain⟨d0,d1⟩:=hat j hjl;(have hb1:wr.heap[b]?=w.heap[b]?:=by have s1:=G1.size;have s2:=NW.gr.size;rw[GW.block b (by omega) (fun e=>by injection e with e;omega),NW.gr.block b (by omega),G1.block b hbw]);rw[<-hN hb1] at d0 d1;have hIe:=HI _ (xZ hjl);have TK:=hZ (sC hjl);clear hat;generalize eat es j=e at *;obtain⟨e1,e2⟩:=e;simp only at d0 d1;obtain⟨m,esm,ck,hmp,hnl⟩:=LM.out;obtain⟨lk,hlk⟩:=Bc (e1,e2) hIe.1 hIe.2;obtain⟨lk2,hlk2⟩:=Bc (e2,e1) hIe.2 hIe.1;(have hws:b<wr.heap.size:=by have s1:=G1.size;have s2:=NW.gr.size;have s3:=GW.size;omega);have hlbl:=hmp.lt;have ga:Gr wr (wr.alloc (.cells #[.int .i64 e1,.int .i64 e2] 30)).drew:=((Gr.refl wr).alloc _).drew;have HN1:(wr.alloc (.cells #[.int .i64 e1,.int .i64 e2] 30)).drew.heap[wr.heap.size]?=some (.cells #[.int .i64 e1,.int .i64 e2] 30 (0,0)):=fY wr _;obtain⟨m1,esm1,ck1,hup1,hM1,hm1⟩:=Mp.put_any (v:=.slice none 0 0) Tryz.keyedE underlying107 (hmp.kept (w':=(wr.alloc (.cells #[.int .i64 e1,.int .i64 e2] 30)).drew) (ga.block _ hmp.lt)) hlk;unfold pk at hup1;have tbl:=fZ tb4;(have t2:wr.cell? ⟨w1.heap.size+1+1,2,none⟩=some (.map (some (w1.heap.size+1))):=by rw[cZ tb4];rfl);have HGA:=hZ ga;have HHN:=hZ HN1;have HTB:=hZ tb4;have HM1:=hZ hM1;have Hm1:=hZ hm1;have HNL:=hZ hnl;clear ga HN1 hM1 hm1 hnl hmp LM tb4;go_wp2_with fail;go_region;have gB1:wr.grownBy (setBlock (wr.alloc (.cells #[.int .i64 e1,.int .i64 e2] 30)).drew (w1.heap.size+1) (.map esm1 ck1)) (some (w1.heap.size+1)):=⟨rfl,rfl,rfl,by simp[setBlock],fun k hk hn=>(gR (fun e=>hn (by rw[e]))).trans (HGA.block k hk)⟩;have hN5:(setBlock (wr.alloc (.cells #[.int .i64 e1,.int .i64 e2] 30)).drew (w1.heap.size+1) (.map esm1 ck1)).heap[wr.heap.size]?=some (.cells #[.int .i64 e1,.int .i64 e2] 30 (0,0)):=(gR (by omega)).trans HHN.out;have hT5:=(gB1.block _ (fZ HTB.out) (fun e=>by injection e with e;omega)).trans HTB.out;have hM5:=HM1.out;clear hup1 t2 d0 d1 HGA HHN;generalize(setBlock (wr.alloc (.cells #[.int .i64 e1,.int .i64 e2] 30)).drew (w1.heap.size+1) (.map esm1 ck1))=W5 at *;obtain⟨m2,esm2,ck2,hup2,hM2,hm2⟩:=Mp.put_any (v:=.slice none 0 0) Tryz.keyedE underlying107 (hM5.kept (w':=W5.drew) rfl) hlk2;unfold pk at hup2;(have t2:W5.cell? ⟨w1.heap.size+1+1,2,none⟩=some (.map (some (w1.heap.size+1))):=by rw[cZ hT5];rfl);(have n0:W5.cell? ⟨wr.heap.size,0,none⟩=some (.int .i64 e1):=by rw[cZ hN5];rfl);(have n1:W5.cell? ⟨wr.heap.size,1,none⟩=some (.int .i64 e2):=by rw[cZ hN5];rfl);have GE:Hid (W4.grownBy (setBlock W5.drew (w1.heap.size+1) (.map esm2 ck2)) (some (w1.heap.size+1))):=(GW.trans gB1).trans ⟨rfl,rfl,rfl,by simp[setBlock],fun k hk hn=>gR (fun e=>hn (by rw[e]))⟩;(have LE:Hid (∃m esm ck,Mp prog 30 (setBlock W5.drew (w1.heap.size+1) (.map esm2 ck2)) (w1.heap.size+1) m esm ck/\Nl m (es.take (j+1))):=by refine⟨m2,esm2,ck2,hM2,?_⟩;rw[TK.out];exact HNL.step Hm1.out hm2);clear hM2 hm2 HM1 Hm1 HNL hM5 gB1 hN5 hT5;go_wp2_with fail;go_region;go_wp2_with fail;exact⟨⟨j+1,hjl,by simp,GE,LE⟩,gD _ _ hjl⟩
    ·(have hje:j=es.length:=by omega);subst hje;rw[bB] at LM;obtain⟨m,esm,ck,hmp,hnl⟩:=LM.out;have hml1:Ml ml w1:=G1.ml HML.out;obtain⟨HB,hcap,MB,r,z1,z2⟩:=Mo ml NW.out (by omega) (by omega) (by omega) (by omega) (by omega) (by omega) hml1 hn1 hn8 HAD.out HED.out HES.out GW.out hmp hnl;have FE:=hZ (And.intro z1 ((Fr.gr (r:=fun _=>.no) G1.out).trans z2));clear hmp hnl z1 z2 LM tb4;go_wp2_with fail;exact bodyPost_ret (v:=.tuple #[.pointer (some ⟨w1.heap.size+2,0,none⟩),.int .i64 0]) (by simp[results,results13,go_sem]) rfl ⟨_,HB,hcap,MB,_,_,r,rfl,FE.out⟩
end Go.Proofs.YtecnfgikbmcgoabGreat
