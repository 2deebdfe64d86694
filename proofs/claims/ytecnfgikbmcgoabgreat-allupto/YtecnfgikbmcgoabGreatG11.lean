import Derived.Test.YtecnfgikbmcgoabGreatG10
set_option maxHeartbeats 8000000
set_option maxRecDepth 100000
namespace Go.Proofs.YtecnfgikbmcgoabGreat
open Go.Proofs.Tryz
open Go.RowKit
open Go.Maps (Keyed)
open Go.ChangeMaps (setBlock)
variable {nxt:Nat->Nat->Int}{part:Nat->Nat}{u x z:Nat}
theorem uW(x:Mm):∃a0 n0 c0 k1 k2 a3 n3 c3,iE x=[.slice a0 n0 c0,.int .i64 k1,.int .i64 k2,.slice a3 n3 c3]:=by unfold iE;split<;>exact⟨_,_,_,_,_,_,_,_,rfl⟩
theorem Qr.first{w:World}{e:TypeId}{R:Nat->Prop}{v:Value}{n:Nat}{m0 m1 m2 m3:Value}{xs:List Value}(h:Qr w e 4 R v (n+1) ([m0,m1,m2,m3]++xs)):∃g off cap cur,v=.slice (some ⟨g,off,none⟩) (n+1) cap/\R g/\w.heap[g]?=some (.cells cur e (0,0))/\n+1<=cap/\cap<=maxLen/\off+cap*4<=cur.size/\(cur.toList.drop off).take ((n+1)*4)=[m0,m1,m2,m3]++xs /\w.cell? ⟨g,off,none⟩=some m0/\w.cell? ⟨g,off+1,none⟩=some m1/\w.cell? ⟨g,off+1+1,none⟩=some m2/\w.cell? ⟨g,off+1+1+1,none⟩=some m3:=by
 rcases h.2 with⟨_,h2⟩|⟨g,off,cap,cur,hv,hR,hg,h3,h4,h5,h6⟩
 ·omega
 ·have hc:∀j u,([m0,m1,m2,m3]++xs)[j]?=some u->w.cell? ⟨g,off+j,none⟩=some u:=by
   intro j u hu;rw[cell_of_row w g (off+j) cur e (0,0) hg];rw[<-h6,fD] at hu;split at hu
   ·rw[List.getElem?_drop] at hu;simpa using hu
   ·cases hu
  exact⟨g,off,cap,cur,hv,hR,hg,h3,h4,h5,h6,hc 0 m0 rfl,hc 1 m1 rfl,hc 2 m2 rfl,hc 3 m3 rfl⟩
theorem tI(T:Tc)(r:Nat->Rl)(w:World)(Xs:Nat->List Hm)(qs:Nat->Nat->List Mm)(cls:List Cl)(a b:Nat)(x:Mm)(rest:List Mm)(a0 a3:Option Addr)(n0 c0 n3 c3:Nat)(k1 k2:Int)(hx:iE x=[.slice a0 n0 c0,.int .i64 k1,.int .i64 k2,.slice a3 n3 c3])(h:Tm T r w Xs qs cls)(hab:T.adj a b=true)(hq:qs a b=x::rest):Calls prog 56 #[.pointer (some ⟨T.TB,0,none⟩),.agg #[.int .i64 a,.int .i64 b]] w fun e w'=>e=.returned (.agg #[.slice a0 n0 c0,.int .i64 k1,.int .i64 k2,.slice a3 n3 c3])/\Tm T r w' Xs (mO qs a b) cls/\Fr r r w w':=by
 have hlt:=h.b.adj a b hab;have hnb:=h.b.nb8;have Hh:=hZ h;clear h;go_enter func56,ntmps56;go_wp2_with fail;have G1:Gr w ((w.alloc (.cells #[.int .i64 a,.int .i64 b] 30)).alloc (.cells #[.slice none 0 0,.int .i64 0,.int .i64 0,.slice none 0 0] 149)):=((Gr.refl w).alloc _).alloc _;have HA:=gK (gZ.alloc (.cells #[.slice none 0 0,.int .i64 0,.int .i64 0,.slice none 0 0] 149)) (fY w (.cells #[.int .i64 a,.int .i64 b] 30));have HB:=fY (w.alloc (.cells #[.int .i64 a,.int .i64 b] 30)) (.cells #[.slice none 0 0,.int .i64 0,.int .i64 0,.slice none 0 0] 149);rw[show(w.alloc (.cells #[.int .i64 a,.int .i64 b] 30)).heap.size=w.heap.size+1 by simp] at HB;generalize((w.alloc (.cells #[.int .i64 a,.int .i64 b] 30)).alloc (.cells #[.slice none 0 0,.int .i64 0,.int .i64 0,.slice none 0 0] 149))=W1 at *;have hT:=hZ (Hh.gr G1);obtain⟨m,es,clock,hmp,_,hall,hev⟩:=hT.out.l.lk;obtain⟨v,hv⟩:=hev a b hab;have hQ:Qr W1 149 4 (fun k=>r k=.qu a b) v (rest.length+1) ([.slice a0 n0 c0,.int .i64 k1,.int .i64 k2,.slice a3 n3 c3]++rest.flatMap iE):=by obtain⟨a',b',e,_,hQ⟩:=hall _ v hv;have:=mT e;simp only[cP,dX] at this;rw[<-this.1,<-this.2,hq,bA,cQ,hx] at hQ;exact hQ
 obtain⟨g,off,cap,cur,rfl,hR,hg,h3,h4,h5,h6,d0,d1,d2,d3⟩:=hQ.first;obtain⟨lk,hlk⟩:=Bc ((a:Int),(b:Int)) ⟨by omega,by omega⟩ ⟨by omega,by omega⟩;have hlu:∀n:Nat,(Instr.lookup 107 (.map (some T.LB)) (.agg #[.int .i64 a,.int .i64 b]) false).run prog (W1.drewN n)=.ok (.slice (some ⟨g,off,none⟩) (rest.length+1) cap) (W1.drewN n):=fun n=>Mp.look_yes Tryz.keyedE underlying107 (hmp.kept (by rw[World.heap_drewN])) hlk hv false;have hc2:W1.cell? ⟨T.TB,2,none⟩=some (.map (some T.LB)):=hT.out.b.c2;have hTB:T.TB<W1.heap.size:=hT.out.tlt;have ka0:W1.cell? ⟨w.heap.size,0,none⟩=some (.int .i64 a):=by rw[cZ HA];rfl
 have ka1:W1.cell? ⟨w.heap.size,1,none⟩=some (.int .i64 b):=by rw[cZ HA];rfl
 have e0:W1.cell? ⟨g,off,none⟩=some (.slice a0 n0 c0):=d0;have e1:W1.cell? ⟨g,off+1,none⟩=some (.int .i64 k1):=d1;have e2:W1.cell? ⟨g,off+1+1,none⟩=some (.int .i64 k2):=d2;have e3:W1.cell? ⟨g,off+1+1+1,none⟩=some (.slice a3 n3 c3):=d3;have hgl:g<W1.heap.size:=fZ (w:=W1) hg;have HD:=hZ hmp;have HALL:=hZ hall;have HEV:=hZ hev;have HV:=hZ hv;have H6:=hZ h6;have HG:=hZ hg;clear hmp hall hev hv hQ h6 hg d0 d1 d2 d3;go_quiet(fail);have G2:=hZ (G1.drewN nq);clear hlu;generalize hW2:W1.drewN nq=W2 at *;have hh2:W2.heap=W1.heap:=by rw[<-hW2,World.heap_drewN]
 have cc:∀p:Addr,W2.cell? p=W1.cell? p:=fun p=>World.cell?_of_block (by rw[hh2]);rw[<-cc] at hc2 ka0 ka1 e0 e1 e2 e3;rw[<-hh2] at HA HB hTB hgl;have HG2:Hid (W2.heap[g]?=some (.cells cur 149 (0,0))):=by show _=_;rw[hh2];exact HG.out
 have HD2:=hZ (HD.kept (w':=W2) (by rw[hh2]));have HT2:=hZ (Hh.gr G2.out);clear HG HD hT hh2 cc hW2 G1;have f0:W2.frozen? ⟨g,off,none⟩=false:=frozen_of_row _ _ _ _ _ HG2.out;have f1:W2.frozen? ⟨g,off+1,none⟩=false:=frozen_of_row _ _ _ _ _ HG2.out;have f2:W2.frozen? ⟨g,off+1+1,none⟩=false:=frozen_of_row _ _ _ _ _ HG2.out;have f3:W2.frozen? ⟨g,off+1+1+1,none⟩=false:=frozen_of_row _ _ _ _ _ HG2.out;go_wp2_with fail;have SZ2:=HT2.tlt;have hgw:g<w.heap.size:=by
  rcases cG g w.heap.size with h|h
  ·exact h
  ·have:=Hh.b.top g h;rw[hR] at this;cases this
 have hws:w.heap.size+2<=W2.heap.size:=fZ HB;have nLB:T.LB≠g:=fun e=>by have:=HT2.l.lm;rw[e,hR] at this;cases this
 have nTB:T.TB≠g:=fun e=>by have:=HT2.b.rT;rw[e,hR] at this;cases this
 have G3:Hid (Gr w (W2.alloc (.cells #[.slice a0 n0 c0,.int .i64 k1,.int .i64 k2,.slice a3 n3 c3] 149))):=G2.alloc _;have HT3:=hZ (Hh.gr G3.out);obtain⟨cur',hcs',hcd',hg3⟩:∃cur':Array Value,cur'.size=cur.size/\cur'.toList.drop (off+4)=cur.toList.drop (off+4)/\(((((W2.setCell ⟨g,off,none⟩ (.slice none 0 0)).setCell ⟨g,off+1,none⟩ (.int .i64 0)).setCell ⟨g,off+2,none⟩ (.int .i64 0)).setCell ⟨g,off+3,none⟩ (.slice none 0 0)).alloc (.cells #[.slice a0 n0 c0,.int .i64 k1,.int .i64 k2,.slice a3 n3 c3] 149)).heap[g]?=some (.cells cur' 149 (0,0)):=by
  refine⟨(((cur.setIfInBounds off (.slice none 0 0)).setIfInBounds (off+1) (.int .i64 0)).setIfInBounds (off+2) (.int .i64 0)).setIfInBounds (off+3) (.slice none 0 0),by simp,?_,?_⟩
  ·simp only[cR];rw[fQ (by omega),fQ (by omega),fQ (by omega),fQ (by omega)]
  ·rw[gF _ _ (by simp only[gY];exact hgl)];exact gI (gI (gI (gI HG2.out _) _) _) _
 have hoth:∀k,k≠g->(((((W2.setCell ⟨g,off,none⟩ (.slice none 0 0)).setCell ⟨g,off+1,none⟩ (.int .i64 0)).setCell ⟨g,off+2,none⟩ (.int .i64 0)).setCell ⟨g,off+3,none⟩ (.slice none 0 0)).alloc (.cells #[.slice a0 n0 c0,.int .i64 k1,.int .i64 k2,.slice a3 n3 c3] 149)).heap[k]?=(W2.alloc (.cells #[.slice a0 n0 c0,.int .i64 k1,.int .i64 k2,.slice a3 n3 c3] 149)).heap[k]?:=by intro k hk;show(Array.push _ _)[k]?=(Array.push _ _)[k]?;rw[Array.getElem?_push,Array.getElem?_push];simp only[gY];rw[Below.heap_setCell _ _ _ k hk,Below.heap_setCell _ _ _ k hk,Below.heap_setCell _ _ _ k hk,Below.heap_setCell _ _ _ k hk]
 have hsz3:(((((W2.setCell ⟨g,off,none⟩ (.slice none 0 0)).setCell ⟨g,off+1,none⟩ (.int .i64 0)).setCell ⟨g,off+2,none⟩ (.int .i64 0)).setCell ⟨g,off+3,none⟩ (.slice none 0 0)).alloc (.cells #[.slice a0 n0 c0,.int .i64 k1,.int .i64 k2,.slice a3 n3 c3] 149)).heap.size=W2.heap.size+1:=by rw[gX];simp only[gY]
 have hos3:(((((W2.setCell ⟨g,off,none⟩ (.slice none 0 0)).setCell ⟨g,off+1,none⟩ (.int .i64 0)).setCell ⟨g,off+2,none⟩ (.int .i64 0)).setCell ⟨g,off+3,none⟩ (.slice none 0 0)).alloc (.cells #[.slice a0 n0 c0,.int .i64 k1,.int .i64 k2,.slice a3 n3 c3] 149)).os=W2.os/\(((((W2.setCell ⟨g,off,none⟩ (.slice none 0 0)).setCell ⟨g,off+1,none⟩ (.int .i64 0)).setCell ⟨g,off+2,none⟩ (.int .i64 0)).setCell ⟨g,off+3,none⟩ (.slice none 0 0)).alloc (.cells #[.slice a0 n0 c0,.int .i64 k1,.int .i64 k2,.slice a3 n3 c3] 149)).tape=W2.tape/\(((((W2.setCell ⟨g,off,none⟩ (.slice none 0 0)).setCell ⟨g,off+1,none⟩ (.int .i64 0)).setCell ⟨g,off+2,none⟩ (.int .i64 0)).setCell ⟨g,off+3,none⟩ (.slice none 0 0)).alloc (.cells #[.slice a0 n0 c0,.int .i64 k1,.int .i64 k2,.slice a3 n3 c3] 149)).output=W2.output:=⟨rfl,rfl,rfl⟩;generalize(((((W2.setCell ⟨g,off,none⟩ (.slice none 0 0)).setCell ⟨g,off+1,none⟩ (.int .i64 0)).setCell ⟨g,off+2,none⟩ (.int .i64 0)).setCell ⟨g,off+3,none⟩ (.slice none 0 0)).alloc (.cells #[.slice a0 n0 c0,.int .i64 k1,.int .i64 k2,.slice a3 n3 c3] 149))=W3 at *;have ho3:∀k,k<W2.heap.size->k≠g->W3.heap[k]?=W2.heap[k]?:=fun k hk hn=>(hoth k hn).trans (gF _ _ hk);have hM3:W3.heap[W2.heap.size]?=some (.cells #[.slice a0 n0 c0,.int .i64 k1,.int .i64 k2,.slice a3 n3 c3] 149 (0,0)):=(hoth _ (by omega)).trans (fY _ _);have hB3:W3.heap[w.heap.size+1]?=some (.cells #[.slice none 0 0,.int .i64 0,.int .i64 0,.slice none 0 0] 149 (0,0)):=(ho3 _ (by omega) (by omega)).trans HB;have hA3:W3.heap[w.heap.size]?=some (.cells #[.int .i64 a,.int .i64 b] 30 (0,0)):=(ho3 _ (by omega) (by omega)).trans HA;have p2:W3.cell? ⟨T.TB,2,none⟩=some (.map (some T.LB)):=(hN (ho3 _ hTB nTB) 2).trans hc2;have q0:W3.cell? ⟨w.heap.size,0,none⟩=some (.int .i64 a):=by rw[cZ hA3];rfl
 have q1:W3.cell? ⟨w.heap.size,1,none⟩=some (.int .i64 b):=by rw[cZ hA3];rfl
 have hmpD:Mp prog 30 W3.drew T.LB m es clock:=HD2.kept (ho3 _ HD2.lt nLB);have hQp:=Qr.pop (w':=W3.drew) (R:=fun k=>r k=.qu a b) (xs:=[.slice a0 n0 c0,.int .i64 k1,.int .i64 k2,.slice a3 n3 c3]++rest.flatMap iE) (by rw[aG,Mq];simp;omega) (Nat.succ_pos _) hR h3 h4 h5 H6.out hg3 hcs' hcd';have hdrop:([.slice a0 n0 c0,.int .i64 k1,.int .i64 k2,.slice a3 n3 c3]++rest.flatMap iE:List Value).drop 4=rest.flatMap iE:=rfl;rw[hdrop,Nat.succ_sub_one] at hQp;obtain⟨es',m1,m2,hm12,hup,hM'⟩:=Mp.put_old Tryz.keyedE underlying107 hmpD hlk HV.out (v:=.slice (if cap=1 then some ⟨g,off,none⟩ else some ⟨g,off+4,none⟩) rest.length (cap-1));have FIN:Hid (Tm T r (setBlock W3.drew T.LB (.map es' clock)) Xs (mO qs a b) cls/\Fr r r (W2.alloc (.cells #[.slice a0 n0 c0,.int .i64 k1,.int .i64 k2,.slice a3 n3 c3] 149)) (setBlock W3.drew T.LB (.map es' clock))):=by
  obtain⟨mm,ess,ck,z1,z2,z3,z4⟩:=HT3.l.lk;refine Tm.pop (w2:=W3.drew) HT3.out hq (by rw[<-hm12];exact HD2.kept (gF _ _ HD2.lt)) ?_ (by rw[<-hm12];exact HEV.out) hab hR (fun k hk=>hoth k hk) (by rw[gX];exact hsz3) hos3.1 hos3.2.1 hos3.2.2 hQp hM';rw[<-hm12];have hmm:mm=m:=by have e1:=z1.blk;have e2:=(HD2.kept (w':=W2.alloc (.cells #[.slice a0 n0 c0,.int .i64 k1,.int .i64 k2,.slice a3 n3 c3] 149)) (gF _ _ HD2.lt)).blk;rw[e1] at e2;injection e2 with e2;injection e2 with e2 e3;rw[<-z1.ent,<-HD2.ent,e2]
  rw[<-hmm];exact z3
 unfold pk at hup;have GX:=hZ (And.intro hM3 hB3);clear hM' hm12 hmpD hQp hdrop HALL HEV HV H6 HD2 HT2 HT3 hcd' hg3 hoth hsz3 hos3 ho3 hA3 hM3 hB3 e0 e1 e2 e3 f0 f1 f2 f3 hc2 ka0 ka1 HA HB HG2;have hle:(1:Int)<=(rest.length:Int)+1:=by omega
 have END:Hid (∀W4:World,W4=setBlock W3.drew T.LB (.map es' clock)->W4.heap[W2.heap.size]?=some (.cells #[.slice a0 n0 c0,.int .i64 k1,.int .i64 k2,.slice a3 n3 c3] 149 (0,0))/\W4.heap[w.heap.size+1]?=some (.cells #[.slice none 0 0,.int .i64 0,.int .i64 0,.slice none 0 0] 149 (0,0))/\Tm T r W4 Xs (mO qs a b) cls/\Fr r r w W4):=by
  intro W4 e;subst e;have hr1:r (w.heap.size+1)=.no:=Hh.b.top _ (cD _);have hr2:r W2.heap.size=.no:=Hh.b.top _ (by omega);have n1:w.heap.size+1≠T.LB:=fun e=>by have:=FIN.1.l.lm;rw[<-e,hr1] at this;cases this
  have n2:W2.heap.size≠T.LB:=fun e=>by have:=FIN.1.l.lm;rw[<-e,hr2] at this;cases this
  exact⟨(gR n2).trans GX.1,(gR n1).trans GX.2,FIN.1,(Fr.gr G3.out).trans FIN.2⟩
 have LAST:Hid (∀W4:World,Tm T r W4 Xs (mO qs a b) cls->Fr r r w W4->∀u0 u1 u2 u3:Value,Tm T r ((((W4.setCell ⟨w.heap.size+1,0,none⟩ u0).setCell ⟨w.heap.size+1,1,none⟩ u1).setCell ⟨w.heap.size+1,2,none⟩ u2).setCell ⟨w.heap.size+1,3,none⟩ u3) Xs (mO qs a b) cls/\Fr r r w ((((W4.setCell ⟨w.heap.size+1,0,none⟩ u0).setCell ⟨w.heap.size+1,1,none⟩ u1).setCell ⟨w.heap.size+1,2,none⟩ u2).setCell ⟨w.heap.size+1,3,none⟩ u3)):=by intro W4 h1 h2 u0 u1 u2 u3;have hr1:r (w.heap.size+1)=.no:=Hh.b.top _ (cD _);exact⟨(((h1.set hr1 (by omega) _).set hr1 (by omega) _).set hr1 (by omega) _).set hr1 (by omega) _,(((h2.set (cD _) _).set (cD _) _).set (cD _) _).set (cD _) _⟩
 clear FIN GX;by_cases hc:cap=1
 ·subst hc;have hr0:rest.length=0:=by omega
  rw[if_pos rfl,hr0,Nat.sub_self] at hup;go_region;have E4:=END _ rfl;clear END hup hle;generalize setBlock W3.drew T.LB (.map es' clock)=W4 at *;obtain⟨hm4,hb4,hT4,hF4⟩:=E4;have u0:W4.cell? ⟨W2.heap.size,0,none⟩=some (.slice a0 n0 c0):=by rw[cZ hm4];rfl
  have u1:W4.cell? ⟨W2.heap.size,1,none⟩=some (.int .i64 k1):=by rw[cZ hm4];rfl
  have u2:W4.cell? ⟨W2.heap.size,2,none⟩=some (.int .i64 k2):=by rw[cZ hm4];rfl
  have u3:W4.cell? ⟨W2.heap.size,3,none⟩=some (.slice a3 n3 c3):=by rw[cZ hm4];rfl
  have v0:W4.cell? ⟨w.heap.size+1,0,none⟩=some (.slice none 0 0):=by rw[cZ hb4];rfl
  have v1:W4.cell? ⟨w.heap.size+1,1,none⟩=some (.int .i64 0):=by rw[cZ hb4];rfl
  have v2:W4.cell? ⟨w.heap.size+1,2,none⟩=some (.int .i64 0):=by rw[cZ hb4];rfl
  have v3:W4.cell? ⟨w.heap.size+1,3,none⟩=some (.slice none 0 0):=by rw[cZ hb4];rfl
  have f0:∀j,W4.frozen? ⟨w.heap.size+1,j,none⟩=false:=fun j=>frozen_of_row _ _ _ _ _ hb4;have L4:=hZ (LAST W4 hT4 hF4 (.slice a0 n0 c0) (.int .i64 k1) (.int .i64 k2) (.slice a3 n3 c3));clear hT4 hF4 hm4 hb4 LAST;go_wp2_with fail;exact bodyPost_ret (v:=.agg #[.slice a0 n0 c0,.int .i64 k1,.int .i64 k2,.slice a3 n3 c3]) (by simp[results,results56,go_sem,v0,v1,v2,v3]) rfl ⟨rfl,L4.out⟩
 ·rw[if_neg hc] at hup;go_region;have E4:=END _ rfl;clear END hup hle;generalize setBlock W3.drew T.LB (.map es' clock)=W4 at *;obtain⟨hm4,hb4,hT4,hF4⟩:=E4;have u0:W4.cell? ⟨W2.heap.size,0,none⟩=some (.slice a0 n0 c0):=by rw[cZ hm4];rfl
  have u1:W4.cell? ⟨W2.heap.size,1,none⟩=some (.int .i64 k1):=by rw[cZ hm4];rfl
  have u2:W4.cell? ⟨W2.heap.size,2,none⟩=some (.int .i64 k2):=by rw[cZ hm4];rfl
  have u3:W4.cell? ⟨W2.heap.size,3,none⟩=some (.slice a3 n3 c3):=by rw[cZ hm4];rfl
  have v0:W4.cell? ⟨w.heap.size+1,0,none⟩=some (.slice none 0 0):=by rw[cZ hb4];rfl
  have v1:W4.cell? ⟨w.heap.size+1,1,none⟩=some (.int .i64 0):=by rw[cZ hb4];rfl
  have v2:W4.cell? ⟨w.heap.size+1,2,none⟩=some (.int .i64 0):=by rw[cZ hb4];rfl
  have v3:W4.cell? ⟨w.heap.size+1,3,none⟩=some (.slice none 0 0):=by rw[cZ hb4];rfl
  have f0:∀j,W4.frozen? ⟨w.heap.size+1,j,none⟩=false:=fun j=>frozen_of_row _ _ _ _ _ hb4;have L4:=hZ (LAST W4 hT4 hF4 (.slice a0 n0 c0) (.int .i64 k1) (.int .i64 k2) (.slice a3 n3 c3));clear hT4 hF4 hm4 hb4 LAST;go_wp2_with fail;exact bodyPost_ret (v:=.agg #[.slice a0 n0 c0,.int .i64 k1,.int .i64 k2,.slice a3 n3 c3]) (by simp[results,results56,go_sem,v0,v1,v2,v3]) rfl ⟨rfl,L4.out⟩
theorem Yq{f g:Nat->Nat}{j:Nat}:∀n,(∀i,i<n->f i<=g i)->j<n->f j<g j->sm n f<sm n g
 |0,_,hj,_=>by omega
 |n+1,h,hj,hl=>by
  simp only[sm];by_cases e:j=n
  ·subst e;have:=oJ j (fun i hi=>h i (by omega));omega
  ·have:=Yq n (fun i hi=>h i (by omega)) (by omega) hl;have:=h n (by omega);omega
def pV(nb:Nat)(nxt:Nat->Nat->Int)(b n:Nat):Nat:=sm nb fun t=>if nxt n t=(b:Int) then 1 else 0
structure Fo(nb:Nat)(part:Nat->Nat)(adj:Nat->Nat->Bool)(nxt:Nat->Nat->Int):Prop where
 sym:∀a b,adj a b=true->adj b a=true
 irr:∀a,adj a a=false
 inn:∀a b,adj a b=true->a<nb/\b<nb
 same:∀a b,adj a b=true->part a=part b
 self:∀t,nxt t t=-1
 back:∀b n t,adj b n=true->part t=part b->nxt b t≠(n:Int)->nxt n t=(b:Int)
 nb':∀b t,nxt b t=-1\/∃m:Nat,nxt b t=(m:Int)/\adj m b=true
 one:∀b t,part b=part t->nxt b t=-1->b=t
 excl:∀b n t,adj b n=true->part t=part b->nxt b t=(n:Int)->nxt n t≠(b:Int)
theorem Fo.init(nb:Nat):Fo nb (fun b=>b) (fun _ _=>false) (fun _ _=>-1):=⟨fun _ _ h=>(by cases h),fun _=>rfl,fun _ _ h=>(by cases h),fun _ _ h=>(by cases h),fun _=>rfl,fun _ _ _ h=>(by cases h),fun _ _=>Or.inl rfl,fun _ _ h _=>h,fun _ _ _ h=>(by cases h)⟩
def jY(part:Nat->Nat)(u v:Nat):Nat->Nat:=fun x=>if part x=part v then part u else part x
def Gp(adj:Nat->Nat->Bool)(u v:Nat):Nat->Nat->Bool:=fun a b=>adj a b||(a==u&&b==v)||(a==v&&b==u)
def Cj(part:Nat->Nat)(nxt:Nat->Nat->Int)(u v:Nat):Nat->Nat->Int:=fun b t=>
 if part b=part u/\part t=part v then(if b=u then(v:Int) else nxt b u)
 else if part b=part v/\part t=part u then(if b=v then(u:Int) else nxt b v)
 else nxt b t
theorem kJ{adj:Nat->Nat->Bool}{v a b:Nat}:Gp adj u v a b=true↔adj a b=true\/(a=u/\b=v)\/(a=v/\b=u):=by simp[Gp,or_assoc]
theorem Fo.join{nb:Nat}{adj:Nat->Nat->Bool}(h:Fo nb part adj nxt){v:Nat}(hu:u<nb)(hv:v<nb)(hp:part u≠part v):Fo nb (jY part u v) (Gp adj u v) (Cj part nxt u v):=by
 have huv:u≠v:=fun e=>hp (by rw[e]);have far:∀{n b c:Nat},adj b n=true->b≠c->nxt b c≠(n:Int)->part c=part b->n≠c/\nxt n c=(b:Int):=by intro n b c hbn hbc hne hpc;have h1:=h.back b n c hbn hpc hne;refine⟨fun e=>?_,h1⟩;subst e;rw[h.self] at h1;omega
 have near:∀{n b:Nat},adj b n=true->n≠b/\nxt n b=(b:Int):=by intro n b hbn;refine⟨fun e=>?_,h.back b n b hbn rfl (by rw[h.self];omega)⟩;subst e;rw[h.irr] at hbn;cases hbn
 have adjp:∀{b t m:Nat},nxt b t=(m:Int)->part m=part b:=by
  intro b t m e;rcases h.nb' b t with e'|⟨m',e',hm⟩
  ·omega
  ·(have:m=m':=by omega);subst this;exact h.same m b hm
 refine⟨fun a b hab=>?_,fun a=>?_,fun a b hab=>?_,fun a b hab=>?_,fun t=>?_,fun b n t hbn hpt hne=>?_,fun b t=>?_,fun b t hpt he=>?_,fun b n t hbn hpt he=>?_⟩
 ·rw[kJ] at *;rcases hab with hab|⟨rfl,rfl⟩|⟨rfl,rfl⟩
  ·exact Or.inl (h.sym a b hab)
  ·exact Or.inr (Or.inr ⟨rfl,rfl⟩)
  ·exact Or.inr (Or.inl ⟨rfl,rfl⟩)
 ·cases hj:Gp adj u v a a with
  |false=>rfl
  |true=>
   rcases kJ.1 hj with hab|⟨rfl,e⟩|⟨rfl,e⟩
   ·rw[h.irr] at hab;cases hab
   ·exact absurd e huv
   ·exact absurd e.symm huv
 ·rcases kJ.1 hab with hab|⟨rfl,rfl⟩|⟨rfl,rfl⟩
  ·exact h.inn a b hab
  ·exact⟨hu,hv⟩
  ·exact⟨hv,hu⟩
 ·simp only[jY];rcases kJ.1 hab with hab|⟨rfl,rfl⟩|⟨rfl,rfl⟩
  ·rw[h.same a b hab]
  ·rw[if_neg hp,if_pos rfl]
  ·rw[if_pos rfl,if_neg hp]
 ·simp only[Cj];rw[if_neg (fun e=>hp (e.1.symm.trans e.2)),if_neg (fun e=>hp (e.2.symm.trans e.1))];exact h.self t
 ·simp only[jY] at hpt;simp only[Cj] at hne ⊢;rcases kJ.1 hbn with h0|⟨rfl,rfl⟩|⟨rfl,rfl⟩
  ·have hs:=h.same b n h0;rw[<-hs];by_cases c1:part b=part u/\part t=part v
   ·rw[if_pos c1] at hne ⊢;by_cases hbu:b=u
    ·subst hbu;obtain⟨k1,k2⟩:=near h0;rw[if_neg k1];exact k2
    ·rw[if_neg hbu] at hne;obtain⟨k1,k2⟩:=far h0 hbu hne c1.1.symm;rw[if_neg k1];exact k2
   ·rw[if_neg c1] at hne ⊢;by_cases c2:part b=part v/\part t=part u
    ·rw[if_pos c2] at hne ⊢;by_cases hbv:b=v
     ·subst hbv;obtain⟨k1,k2⟩:=near h0;rw[if_neg k1];exact k2
     ·rw[if_neg hbv] at hne;obtain⟨k1,k2⟩:=far h0 hbv hne c2.1.symm;rw[if_neg k1];exact k2
    ·rw[if_neg c2] at hne ⊢;refine h.back b n t h0 ?_ hne;by_cases e1:part t=part v
     ·by_cases e2:part b=part v
      ·rw[e1,e2]
      ·rw[if_pos e1,if_neg e2] at hpt;exact absurd ⟨hpt.symm,e1⟩ c1
     ·by_cases e2:part b=part v
      ·rw[if_neg e1,if_pos e2] at hpt;exact absurd ⟨e2,hpt⟩ c2
      ·rw[if_neg e1,if_neg e2] at hpt;exact hpt
  ·rw[if_neg hp] at hpt;by_cases e1:part t=part n
   ·rw[if_pos ⟨rfl,e1⟩,if_pos rfl] at hne;exact absurd rfl hne
   ·rw[if_neg e1] at hpt;rw[if_neg (fun c=>hp c.1.symm),if_pos ⟨rfl,hpt⟩,if_pos rfl]
  ·rw[if_pos rfl] at hpt;by_cases e1:part t=part b
   ·rw[if_pos ⟨rfl,e1⟩,if_pos rfl]
   ·rw[if_neg e1] at hpt;rw[if_neg (fun c=>hp c.1.symm),if_pos ⟨rfl,hpt⟩,if_pos rfl] at hne;exact absurd rfl hne
 ·simp only[Cj];have lift:∀x y:Nat,nxt x y=-1\/∃m:Nat,nxt x y=(m:Int)/\Gp adj u v m x=true:=fun x y=>by
   rcases h.nb' x y with e|⟨m,e,hm⟩
   ·exact Or.inl e
   ·exact Or.inr ⟨m,e,kJ.2 (Or.inl hm)⟩
  split
  ·split
   ·rename_i _ e;subst e;exact Or.inr ⟨v,rfl,kJ.2 (Or.inr (Or.inr ⟨rfl,rfl⟩))⟩
   ·exact lift b u
  ·split
   ·split
    ·rename_i _ _ e;subst e;exact Or.inr ⟨u,rfl,kJ.2 (Or.inr (Or.inl ⟨rfl,rfl⟩))⟩
    ·exact lift b v
   ·exact lift b t
 ·simp only[Cj] at he;simp only[jY] at hpt;by_cases c1:part b=part u/\part t=part v
  ·rw[if_pos c1] at he;by_cases hbu:b=u
   ·rw[if_pos hbu] at he;omega
   ·rw[if_neg hbu] at he;exact absurd (h.one b u c1.1 he) hbu
  ·rw[if_neg c1] at he;by_cases c2:part b=part v/\part t=part u
   ·rw[if_pos c2] at he;by_cases hbv:b=v
    ·rw[if_pos hbv] at he;omega
    ·rw[if_neg hbv] at he;exact absurd (h.one b v c2.1 he) hbv
   ·rw[if_neg c2] at he;refine h.one b t ?_ he;by_cases e1:part t=part v
    ·by_cases e2:part b=part v
     ·rw[e1,e2]
     ·rw[if_pos e1,if_neg e2] at hpt;exact absurd ⟨hpt,e1⟩ c1
    ·by_cases e2:part b=part v
     ·rw[if_neg e1,if_pos e2] at hpt;exact absurd ⟨e2,hpt.symm⟩ c2
     ·rw[if_neg e1,if_neg e2] at hpt;exact hpt
 ·simp only[jY] at hpt;simp only[Cj] at he ⊢;rcases kJ.1 hbn with h0|⟨rfl,rfl⟩|⟨rfl,rfl⟩
  ·have hs:=h.same b n h0;rw[<-hs];by_cases c1:part b=part u/\part t=part v
   ·rw[if_pos c1] at he ⊢;by_cases hbu:b=u
    ·rw[if_pos hbu] at he;(have:v=n:=by omega);rw[this,<-hs,hbu] at hp;exact absurd rfl hp
    ·rw[if_neg hbu] at he;by_cases hnu:n=u
     ·rw[if_pos hnu];intro e;(have:v=b:=by omega);rw[this,c1.1] at hp;exact hp rfl
     ·rw[if_neg hnu];exact h.excl b n u h0 c1.1.symm he
   ·rw[if_neg c1] at he ⊢;by_cases c2:part b=part v/\part t=part u
    ·rw[if_pos c2] at he ⊢;by_cases hbv:b=v
     ·rw[if_pos hbv] at he;(have:u=n:=by omega);rw[this,<-hs,hbv] at hp;exact absurd rfl hp
     ·rw[if_neg hbv] at he;by_cases hnv:n=v
      ·rw[if_pos hnv];intro e;(have:u=b:=by omega);rw[this,c2.1] at hp;exact hp rfl
      ·rw[if_neg hnv];exact h.excl b n v h0 c2.1.symm he
    ·rw[if_neg c2] at he ⊢;refine h.excl b n t h0 ?_ he;by_cases e1:part t=part v
     ·by_cases e2:part b=part v
      ·rw[e1,e2]
      ·rw[if_pos e1,if_neg e2] at hpt;exact absurd ⟨hpt.symm,e1⟩ c1
     ·by_cases e2:part b=part v
      ·rw[if_neg e1,if_pos e2] at hpt;exact absurd ⟨e2,hpt⟩ c2
      ·rw[if_neg e1,if_neg e2] at hpt;exact hpt
  ·rw[if_neg (fun c=>hp c.1.symm)];by_cases e1:part t=part n
   ·rw[if_neg (fun c=>hp (by rw[<-e1,c.2]))];intro e;exact hp (adjp e)
   ·rw[if_neg (fun c=>e1 c.2),if_neg (fun c=>hp c.1)] at he;exact absurd (adjp he).symm hp
  ·by_cases e1:part t=part b
   ·rw[if_neg (fun c=>hp c.1.symm),if_neg (fun c=>hp (by rw[<-e1,c.2]))] at he;exact absurd (adjp he) hp
   ·rw[if_neg (fun c=>e1 c.2),if_neg (fun c=>hp c.1)];intro e;exact hp (adjp e).symm
def dom(nb:Nat)(nxt:Nat->Nat->Int):Nat->Nat->Int:=fun b t=>if b=t\/¬b<nb then -1 else nxt b (if t<nb then t else 0)
theorem Fo.nx{nb:Nat}{adj:Nat->Nat->Bool}(h:Fo nb part adj nxt)(h1:∀a b,a<nb->b<nb->part a=part b):Nx adj (dom nb nxt):=by
 refine⟨h.sym,h.irr,fun t=>by simp[dom],fun b n t hbn hne=>?_⟩;obtain⟨hb,hn⟩:=h.inn b n hbn;have hbn':b≠n:=fun e=>by subst e;rw[h.irr] at hbn;cases hbn
 have ht:(if t<nb then t else 0)<nb:=by split<;>omega
 have hback:=h.back b n (if t<nb then t else 0) hbn (h1 _ _ ht hb);simp only[dom] at hne ⊢;by_cases hbt:b=t
 ·subst hbt;rw[if_pos hb] at hback;rw[if_neg (by intro e;rcases e with e|e<;>omega),if_pos hb];exact hback (by rw[h.self];omega)
 ·rw[if_neg (by intro e;rcases e with e|e;exact hbt e;exact e hb)] at hne;have:=hback hne;by_cases hnt:n=t
  ·subst hnt;rw[if_pos hn,h.self] at this;omega
  ·rw[if_neg (by intro e;rcases e with e|e;exact hnt e;exact e hn)];exact this
theorem Fo.rk{nb:Nat}{adj:Nat->Nat->Bool}(h:Fo nb part adj nxt)(h1:∀a b,a<nb->b<nb->part a=part b):Rk adj (dom nb nxt) (pV nb (dom nb nxt)):=by
 have N:=h.nx h1;refine⟨fun b n m hbn hmb hmn=>?_,fun b t=>?_⟩
 ·obtain⟨hb,hn⟩:=h.inn b n hbn;unfold pV;refine Yq (j:=b) nb (fun t _=>?_) hb ?_
  ·by_cases e:dom nb nxt b t=(m:Int)
   ·rw[if_pos e,if_pos (N.back b n t hbn (by rw[e];omega))];exact lZ
   ·rw[if_neg e];omega
  ·rw[N.self,if_neg (by omega),if_pos (N.back b n b hbn (by rw[N.self];omega))];decide
 ·simp only[dom];split
  ·exact Or.inl rfl
  ·exact h.nb' b _
structure Nz(nb:Nat)(adj:Nat->Nat->Bool)(nxt:Nat->Nat->Int):Prop where
 inn:∀a b,adj a b=true->a<nb/\b<nb
 one:∀b t,b<nb->t<nb->nxt b t=-1->b=t
 excl:∀b n t,t<nb->adj b n=true->nxt b t=(n:Int)->nxt n t≠(b:Int)
theorem Fo.nz{nb:Nat}{adj:Nat->Nat->Bool}(h:Fo nb part adj nxt)(h1:∀a b,a<nb->b<nb->part a=part b):Nz nb adj (dom nb nxt):=by
 refine⟨h.inn,fun b t hb ht he=>?_,fun b n t ht hbn he=>?_⟩
 ·simp only[dom] at he;by_cases hbt:b=t
  ·exact hbt
  ·rw[if_neg (by intro e;rcases e with e|e;exact hbt e;exact e hb),if_pos ht] at he;exact h.one b t (h1 b t hb ht) he
 ·obtain⟨hb,hn⟩:=h.inn b n hbn;simp only[dom] at he ⊢;by_cases hbt:b=t
  ·rw[if_pos (Or.inl hbt)] at he;omega
  ·rw[if_neg (by intro e;rcases e with e|e;exact hbt e;exact e hb),if_pos ht] at he;by_cases hnt:n=t
   ·rw[if_pos (Or.inl hnt)];omega
   ·rw[if_neg (by intro e;rcases e with e|e;exact hnt e;exact e hn),if_pos ht];exact h.excl b n t hbn (h1 t b ht hb) he
def rN(nb:Nat)(part:Nat->Nat):Nat:=sm nb fun b=>if part b=b then 1 else 0
theorem mH{f g:Nat->Nat}:∀n,(∀i,i<n->f i=g i)->sm n f=sm n g
 |0,_=>rfl
 |n+1,h=>by simp only[sm];rw[mH n (fun i hi=>h i (by omega)),h n (by omega)]
theorem kY{v:Nat}(h:part x=part v):jY part u v x=part u:=if_pos h
theorem kI{v:Nat}(h:¬part x=part v):jY part u v x=part x:=if_neg h
theorem sW(hi:∀b,part (part b)=part b)(u v:Nat)(b:Nat):jY part u v (jY part u v b)=jY part u v b:=by
 by_cases h:part b=part v
 ·rw[kY h];by_cases h2:part (part u)=part v
  ·rw[kY h2]
  ·rw[kI h2,hi]
 ·rw[kI h,kI (by rw[hi];exact h),hi]
theorem Bv{nb:Nat}(hi:∀b,part (part b)=part b)(hl:∀b,b<nb->part b<nb){v:Nat}(hv:v<nb)(hp:part u≠part v):rN nb (jY part u v)+1=rN nb part:=by
 have e:rN nb part=sm nb fun b=>(if jY part u v b=b then 1 else 0)+(if b=part v then 1 else 0):=by
  refine mH nb (fun b _=>?_);by_cases h:part b=part v
  ·rw[kY h];by_cases hb:b=part v
   ·subst hb;rw[hi,if_pos rfl,if_neg hp]
   ·rw[if_neg (fun e=>hb (by rw[<-h,e])),if_neg hb,if_neg ?_];intro e;(have h2:part (part u)=part v:=by rw[e];exact h);rw[hi] at h2;exact hp h2
  ·rw[kI h,if_neg (c:=b=part v) (fun e=>h (by rw[e,hi])),fI]
 rw[e,mS,mG,if_pos (hl v hv)];rfl
theorem Fw{nb:Nat}(hi:∀b,part (part b)=part b)(hl:∀b,b<nb->part b<nb)(h:rN nb part<=1):∀a b,a<nb->b<nb->part a=part b:=by
 intro a b ha hb;refine cO fun hne=>?_;have:sm nb (fun x=>(if x=part a then 1 else 0)+(if x=part b then 1 else 0))<=rN nb part:=oJ nb (fun x _=>by
  by_cases h1:x=part a
  ·rw[if_pos h1,if_neg (by rw[h1];exact hne),if_pos (by rw[h1,hi])];decide
  ·by_cases h2:x=part b
   ·rw[if_neg h1,if_pos h2,if_pos (by rw[h2,hi])];decide
   ·rw[if_neg h1,if_neg h2];omega)
 rw[mS,mG,mG,if_pos (hl a ha),if_pos (hl b hb)] at this;omega
theorem By(nb:Nat):rN nb (fun b=>b)=nb:=by unfold rN;simp only[if_true];rw[nF];omega
theorem wI{a b:World}{B j:Nat}(h:Gr a b)(hB:a.heap.size<=B)(u:Value):Gr a (b.setCell ⟨B,j,none⟩ u):=Below.setCell h (p:=⟨B,j,none⟩) hB u
def pat(p:List Nat)(i:Nat):Nat:=p.getD i 0
def pY(n:Nat)(p:List Nat)(e:Ky):Option (List Nat):=
 if 0<=e.1/\0<=e.2/\e.1<n/\e.2<n/\pat p e.1.toNat≠pat p e.2.toNat then some (p.map fun x=>if x=pat p e.2.toNat then pat p e.1.toNat else x) else none
def pZ(n:Nat):List Nat->List Ky->Option (List Nat)
 |p,[]=>some p
 |p,e::es=>(pY n p e).bind fun q=>pZ n q es
def jD(n:Int)(es:List Ky):Bool:=decide (1<=n)&&decide (n<=8)&&decide ((es.length:Int)=n-1)&&(pZ n.toNat (List.range n.toNat) es).isSome
def eat(es:List Ky)(i:Nat):Ky:=es.getD i (0,0)
def pW(w:World)(ad:Option Addr)(es:List Ky):Prop:=es=[]\/∃b off,ad=some ⟨b,off,none⟩/\b<w.heap.size/\∀i,i<es.length->w.cell? ⟨b,off+i*2,none⟩=some (.int .i64 (eat es i).1)/\w.cell? ⟨b,off+i*2+1,none⟩=some (.int .i64 (eat es i).2)
theorem Su(n j:Nat)(h:j<n):n-(intOf (.int .i64 ((j+1:Nat):Int))).toNat<n-(intOf (.int .i64 (j:Int))).toNat:=by simp[intOf];omega
def mix(f:Nat->Nat)(p:List Nat)(z:Nat):List Nat:=(p.map f).take z++p.drop z
theorem Lv(f:Nat->Nat)(p:List Nat)(z:Nat):(mix f p z).length=p.length:=by simp[mix];omega
theorem Ss{f:Nat->Nat}{p:List Nat}(h:z<p.length):pat (mix f p z) z=pat p z:=by simp only[pat,mix,aI];rw[bS (by simp;omega)];simp[Nat.min_eq_left (Nat.le_of_lt h)]
theorem Lu{f:Nat->Nat}{p:List Nat}(h:z<p.length):(mix f p z).set z (f (pat p z))=mix f p (z+1):=by
 simp only[mix];rw[fL _ _ (by simp;omega)];have e:z-(List.take z (List.map f p)).length=0:=by simp;omega
 rw[e,cU h,List.set_cons_zero];have e2:(p.map f).take (z+1)=(p.map f).take z++[f (pat p z)]:=by rw[List.take_add_one];simp[pat,h]
 rw[e2];simp
theorem Sr{f:Nat->Nat}{p:List Nat}(h:z<p.length)(hf:f (pat p z)=pat p z):mix f p (z+1)=mix f p z:=by
 rw[<-Lu h,hf];apply eP;intro i;rw[dV];split
 ·rename_i hi;subst hi;have hl:z<(mix f p z).length:=by rw[Lv];exact h
  have:=Ss (f:=f) h;rw[if_pos hl,<-this];simp[pat,hl]
 ·rfl
theorem Xd(f:Nat->Nat)(p:List Nat):mix f p p.length=p.map f:=by unfold mix;rw[List.drop_length,aZ,aV (by simp)]
theorem Tn(l:List Nat)(z x:Nat):(kT l).set z (.int .i64 (x:Int))=kT (l.set z x):=by simp[kT,List.map_set]
theorem Dw{p:List Nat}{i:Nat}(h:i<p.length):(kT p)[i]?=some (.int .i64 (pat p i)):=by simp[kT,pat,h]
theorem Jy(n:Int)(es:List Ky)(ad:Option Addr)(cap:Nat)(w:World)(hn:¬(1<=n/\n<=8/\(es.length:Int)=n-1)):Calls prog 36 #[.int .i64 n,.slice ad es.length cap] w fun e w'=>e=.returned (.bool (jD n es))/\Gr w w':=by
 have TB:Hid (jD n es=false):=by
  show _=_;simp only[jD,eK,decide_eq_false_iff_not];by_cases h1:1<=n
  ·by_cases h2:n<=8
   ·exact Or.inl (Or.inr (fun h3=>hn ⟨h1,h2,h3⟩))
   ·exact Or.inl (Or.inl (Or.inr h2))
  ·exact Or.inl (Or.inl (Or.inl h1))
 have HN:=hZ hn;clear hn;by_cases h1:n<1
 ·go_enter func36,ntmps36;go_wp2_with fail;go_ret;exact⟨by rw[TB.out];rfl,gZ⟩
 ·by_cases h2:8<n
  ·go_enter func36,ntmps36;go_wp2_with fail;go_ret;exact⟨by rw[TB.out];rfl,gZ⟩
  ·have h3:((es.length:Int)==n-1)=false:=by simp only[beq_eq_false_iff_ne];exact fun h=>HN ⟨by omega,by omega,h⟩
   (have hw:wrap64 (n-1)=n-1:=by unfold wrap64;omega);go_enter func36,ntmps36;go_wp2_with fail;go_ret;exact⟨by rw[TB.out];rfl,gZ⟩
theorem zS(n:Int)(es:List Ky)(ad:Option Addr)(cap:Nat)(w:World)(hl:es.length<=maxLen)(h:pW w ad es)(hI:∀e∈es,I64 e.1/\I64 e.2):Calls prog 36 #[.int .i64 n,.slice ad es.length cap] w fun e w'=>e=.returned (.bool (jD n es))/\Gr w w':=by
 by_cases hn:1<=n/\n<=8/\(es.length:Int)=n-1
 ·obtain⟨hn1,hn2,hn3⟩:=hn;obtain⟨k,rfl⟩:∃k:Nat,n=k:=⟨n.toNat,by omega⟩;obtain⟨i0,hi,hz0,hz1,hz2⟩:=info_parts Tryz.infoIntQ;have HE:=hZ h;have HI:=hZ hI;clear h hI;have f1:¬(k:Int)<1:=by omega
  have f2:¬(8:Int)<(k:Int):=by omega
  have f3:((es.length:Int)==(k:Int)-1)=true:=by simpa using hn3
  go_enter func36,ntmps36;have HN3:=hZ hn3;clear hn3;go_wp2_with(at_make;refine wpList_make_full _ rfl _ _ 169 rfl w.heap.size 3 i0 _ 1 underlying169 hi hz0 hz1 _ _ _ _ k rfl rfl (by omega) (by omega) ?b2 ?b3 lZ ?_);case b2=>omega
  case b3=>unfold maxLen;omega
  intro w1 hown1 hgrow1;have G1:Hid (Gr w w1):=Below.grown (Gr.refl w) hgrow1 lZ (fun b hb=>by cases hb);have O1:=hZ hown1;clear hown1 hgrow1;go_wp2_with fail;go_loopw [29] (fun i wr=>∃(q:Nat)(xs:List Value),q<=k/\i=.int .i64 q/\Hid (Gr w wr)/\Hid (xs.take q=kT (List.range q))/\Hid (wr.ownsRow w.heap.size 3 1 (.slice (some ⟨w.heap.size,0,none⟩) k k) k xs)) (fun i _=>k-(intOf i).toNat);case atStart=>exact⟨0,_,zZ,rfl,G1,rfl,O1⟩
  case round=>
   obtain⟨q,xs,hq,rfl,G,HX,O⟩:=hrel;clear G1 O1;by_cases hlt:q<k
   ·(have hxl:xs.length=k:=by have:=O.1;omega);obtain⟨r0,rc0⟩:=gQ O.out q (by omega);have rf0:=aK O.out q;have O2:=hZ (bI O.out q (.int .i64 q)).1;have X2:Hid ((xs.set q (.int .i64 q)).take (q+1)=kT (List.range (q+1))):=by show _=_;rw[take_set _ _ _ (by omega),HX.out,List.range_succ,wF]
    have G2:=hZ (wI (j:=q) G.out lZ (.int .i64 q));clear O G HX;go_wp2_with fail;go_roundw;case rel=>exact⟨q+1,_,by omega,by go_num,G2,X2,O2⟩
    case measure=>simp[intOf];omega
   ·(have hqk:q=k:=by omega);subst hqk;have OP:Hid (wr.ownsRow w.heap.size 3 1 (.slice (some ⟨w.heap.size,0,none⟩) q q) q (kT (List.range q))):=by
     (have e:xs=kT (List.range q):=by rw[<-HX.out,aV (by have:=O.1;omega)]);rw[<-e];exact O.out
    clear O HX;go_wp2_with fail;go_loopw [39] (fun i w2=>∃(j:Nat)(p:List Nat),j<=es.length/\i=.int .i64 j/\p.length=q/\Hid (∀x∈p,x<q)/\Hid (Gr w w2)/\Hid (w2.ownsRow w.heap.size 3 1 (.slice (some ⟨w.heap.size,0,none⟩) q q) q (kT p))/\Hid (pZ q (List.range q) es=pZ q p (es.drop j))) (fun i _=>es.length-(intOf i).toNat);case atStart=>exact⟨0,List.range q,zZ,rfl,by simp,fun x hx=>by simpa using hx,G,OP,rfl⟩
    case round=>
     clear G OP;obtain⟨j,p,hj,rfl,hpl,HPL,G,O,E⟩:=hrel;by_cases hlt2:j<es.length
     ·rcases HE.out with h0|⟨b,off,rfl,hbw,hat⟩
      ·rw[h0] at hlt2;simp at hlt2
      obtain⟨d1,d2⟩:=hat j hlt2;rw[<-G.cell (p:=⟨b,off+j*2,none⟩) hbw] at d1;rw[<-G.cell (p:=⟨b,off+j*2+1,none⟩) hbw] at d2;have hbw2:b<wr.heap.size:=G.lt hbw;(have hcons:es.drop j=eat es j::es.drop (j+1):=by rw[cU hlt2];simp[eat,hlt2]);have E2:=hZ E.out;rw[hcons] at E2;clear E hat;generalize eat es j=e at *;obtain⟨e1,e2⟩:=e;simp only at d1 d2;by_cases hin:0<=e1/\0<=e2/\e1<q/\e2<q
      ·obtain⟨u,rfl⟩:∃u:Nat,e1=u:=⟨e1.toNat,by omega⟩;obtain⟨v,rfl⟩:∃v:Nat,e2=v:=⟨e2.toNat,by omega⟩;(have hu:u<q:=by omega);(have hv:v<q:=by omega);(have cu:wr.cell? ⟨w.heap.size,u,none⟩=some (.int .i64 (pat p u)):=by rw[aH O.out u (by omega)];exact Dw (by omega));(have cv:wr.cell? ⟨w.heap.size,v,none⟩=some (.int .i64 (pat p v)):=by rw[aH O.out v (by omega)];exact Dw (by omega));have hws:w.heap.size<wr.heap.size:=dC _ _ cu;(have ET:pY q p ((u:Int),(v:Int))=if pat p u≠pat p v then some (p.map fun x=>if x=pat p v then pat p u else x) else none:=by simp[pY,hu,hv]);have HET:=hZ ET;clear ET;have G3:=hZ (G.alloc (.cells #[.int .i64 u,.int .i64 v] 30));have O3:=hZ (O.alloc (.cells #[.int .i64 u,.int .i64 v] 30));by_cases hpp:pat p u=pat p v
       ·have TB:Hid (jD (q:Int) es=false):=by show _=_;(have:pZ q (List.range q) es=none:=by rw[E2.out,pZ,HET.out,if_neg (by simpa using hpp)];rfl);simp[jD,this]
        (have hpp':((pat p u:Int)==(pat p v:Int))=true:=by simp[hpp]);go_wp2_with fail;go_quiet(fail);go_wp2_with fail;go_ret;exact⟨by rw[TB.out];rfl,G3.drewN _⟩
       ·(have hpp':((pat p u:Int)==(pat p v:Int))=false:=by simp;omega);have E3:Hid (pZ q (List.range q) es=pZ q (p.map fun x=>if x=pat p v then pat p u else x) (es.drop (j+1))):=by show _=_;rw[E2.out,pZ,HET.out,if_pos hpp];rfl
        clear E2 HET;go_wp2_with fail;go_quiet(fail);have G4:=hZ (G3.drewN nq);have O4:=hZ (gO O3.out ((Gr.refl (wr.alloc (.cells #[.int .i64 u,.int .i64 v] 30))).drewN nq));clear G O G3 O3 cu cv d1 d2;go_wp2_with fail;go_loopw [73] (fun i w4=>∃z:Nat,z<=q/\i=.int .i64 z/\Hid (Gr w w4)/\Hid (w4.ownsRow w.heap.size 3 1 (.slice (some ⟨w.heap.size,0,none⟩) q q) q (kT (mix (fun x=>if x=pat p v then pat p u else x) p z)))) (fun i _=>q-(intOf i).toNat);case atStart=>exact⟨0,zZ,rfl,G4,O4⟩
        case round=>
         rename_i w0 _ _ _ _ _ _ _ _ _ _ _ _ _;obtain⟨z,hz,rfl,G5,O5⟩:=hrel;clear G4 O4;by_cases hzq:z<q
         ·(have cz:wr.cell? ⟨w.heap.size,z,none⟩=some (.int .i64 (pat p z)):=by rw[aH O5.out z (by omega),Dw (by rw[Lv];omega),Ss (by omega)]);have fz:=aK O5.out z;by_cases hzv:pat p z=pat p v
          ·(have hzv':((pat p z:Int)==(pat p v:Int))=true:=by simp[hzv]);have O6:Hid ((wr.setCell ⟨w.heap.size,z,none⟩ (.int .i64 (pat p u))).ownsRow w.heap.size 3 1 (.slice (some ⟨w.heap.size,0,none⟩) q q) q (kT (mix (fun x=>if x=pat p v then pat p u else x) p (z+1)))):=by have h7:=(bI O5.out z (.int .i64 (pat p u))).1;(have e7:mix (fun x=>if x=pat p v then pat p u else x) p (z+1)=(mix (fun x=>if x=pat p v then pat p u else x) p z).set z (pat p u):=by rw[<-Lu (by omega)];simp[hzv]);rw[Tn] at h7;show World.ownsRow _ _ _ _ _ _ _;rw[e7];exact h7
           have G6:=hZ (wI (j:=z) G5.out lZ (.int .i64 (pat p u)));clear O5 G5;go_wp2_with fail;refine⟨⟨z+1,by omega,by go_num,G6,O6⟩,?_⟩;simp[intOf];omega
          ·(have hzv':((pat p z:Int)==(pat p v:Int))=false:=by simp;omega);have O6:Hid (wr.ownsRow w.heap.size 3 1 (.slice (some ⟨w.heap.size,0,none⟩) q q) q (kT (mix (fun x=>if x=pat p v then pat p u else x) p (z+1)))):=by show World.ownsRow _ _ _ _ _ _ _;rw[Sr (by omega) (by simp[hzv])];exact O5.out
           go_wp2_with fail;refine⟨⟨z+1,by omega,by go_num,G5,O6⟩,?_⟩;simp[intOf];omega
         ·(have hzq':z=q:=by omega);subst hzq';have O7:=hZ O5.out;rw[<-hpl,Xd] at O7;rw[hpl] at O7;have HPL2:Hid (∀x∈p.map (fun x=>if x=pat p v then pat p u else x),x<z):=by
           intro x hx;obtain⟨y,hy,rfl⟩:=aC.1 hx;split
           ·exact HPL _ (by unfold pat;rw[aI,aJ (by omega)];exact eG _)
           ·exact HPL y hy
          clear O5;have HL:=hZ hl;clear hl;go_wp2_with fail;(have hwj:wrap64 ((j:Int)+1)=((j+1:Nat):Int):=by have:=HL.out;unfold maxLen at this;unfold wrap64;omega);rw[hwj];exact⟨⟨j+1,_,hlt2,rfl,(aB _).trans hpl,HPL2,G5,O7,E3⟩,Su _ _ hlt2⟩
      ·(have hno:pY q p (e1,e2)=none:=by unfold pY;rw[if_neg (fun h=>hin ⟨h.1,h.2.1,h.2.2.1,h.2.2.2.1⟩)]);have TB:Hid (jD (q:Int) es=false):=by show _=_;(have:pZ q (List.range q) es=none:=by rw[E2.out,pZ,hno];rfl);simp[jD,this]
       clear hno E2;have G3:=hZ (G.alloc (.cells #[.int .i64 e1,.int .i64 e2] 30));by_cases hmin:min e1 e2<0
       ·go_wp2_with fail;go_ret;exact⟨by rw[TB.out];rfl,G3.out⟩
       ·(have hmax:(q:Int)<=max e1 e2:=by omega);go_wp2_with fail;go_ret;exact⟨by rw[TB.out];rfl,G3.out⟩
     ·(have hje:j=es.length:=by omega);subst hje;have TB:Hid (jD (q:Int) es=true):=by show _=_;have h1:=E.out;rw[List.drop_length,pZ] at h1;have h2:=HN3.out;simp[jD,h1,h2];omega
      go_wp2_with fail;go_ret;exact⟨by rw[TB.out];rfl,G.out⟩
 ·exact Jy n es ad cap w hn
end Go.Proofs.YtecnfgikbmcgoabGreat
