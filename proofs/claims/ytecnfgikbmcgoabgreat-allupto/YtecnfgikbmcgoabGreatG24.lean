import Derived.Test.YtecnfgikbmcgoabGreatG23
set_option maxHeartbeats 8000000
set_option maxRecDepth 100000
namespace Go.Proofs.YtecnfgikbmcgoabGreat
open Go.Proofs.Tryz
open Go.RowKit
variable {IT c:Nat}{T:Tc}{Xs:Nat->List Hm}{buf:Array Value}{cls cls':List Cl}{dn:List Int}{es:Array MapEntry}{seen:Array Nat}{tm:Bool}{w w':World}
theorem rM{cap s r:Nat}{cl:Bool}(h:c<w.heap.size):(w.setChan c cap buf cl s r tm).heap[c]?=some (.chan cap buf cl s r tm):=by simp[World.setChan,h]
theorem iQ{cap s r k:Nat}{cl:Bool}(h:k≠c):(w.setChan c cap buf cl s r tm).heap[k]?=w.heap[k]?:=by simp only[World.setChan];rw[eX (fun e=>h e.symm)]
theorem kD{cap s r:Nat}{cl:Bool}:(w.setChan c cap buf cl s r tm).heap.size=w.heap.size:=by simp[World.setChan]
theorem Um(f:List Atr)(ad:Option Addr)(cap:Nat)(w:World)(h:EvM w ad f):Calls prog 52 #[.slice ad f.length cap] w fun e w'=>∃g cp,e=.returned (.slice (some ⟨g,0,none⟩) f.length cp)/\(w.heap.size<=g/\g<w'.heap.size/\EvM w' (some ⟨g,0,none⟩) f)/\w'.ownsRow 0 86 4 (.slice (some ⟨g,0,none⟩) f.length cp) f.length (iK f)/\Gr w w':=by
 refine(xF f ad cap w h).mono ?_;rintro e w' ⟨v,rfl,ho,g1⟩;have hlen:=h.len;obtain⟨a,cp,rfl,hb⟩:=gH ho;obtain⟨g,rfl⟩:=hb (by omega);have hlow:=iC ho g rfl;have hlt:=qS ho;obtain⟨ad',cap',e1,hfa⟩:=Jh ho;injection e1 with e1 _ _;subst e1;refine⟨g,cp,rfl,⟨hlow,hlt,?_,h.wf,h.ok⟩,qC ho zZ,g1⟩;rcases hfa with h0|h0
 ·rw[h0] at hlen;simp at hlen
 ·exact h0
section
variable {T:Tc}{r:Nat->Rl}{w:World}{Xs:Nat->List Hm}{qs:Nat->Nat->List Mm}{m1 m2:List Cl}{c:Cl}
theorem Tm.apartC(h:Tm T r w Xs qs (m1++c::m2)){x:Cl}(hx:x∈m1\/x∈m2):x.num≠c.num:=by obtain⟨es,clock,hm⟩:=h.k.mp;have hn:=hm.nod;rw[aS,bH] at hn;have:=zF hn (x:=cv x) (hx.imp (aQ) (aQ));intro e;exact this (by show Value.int .i64 x.num=.int .i64 c.num;rw[e])
theorem Tm.client(h:Tm T r w Xs qs (m1++c::m2))(c':Cl)(hn:c'.num=c.num)(ha:c'.at'=c.at')(hb:c'.blk=c.blk){r':Nat->Rl}(hs:w.heap.size<=w'.heap.size)(hk:∀k,k<w.heap.size->k≠c.blk->k≠c.chn->w'.heap[k]?=w.heap[k]?)(hr:∀k,k<w.heap.size->r' k=r k)(ht:∀k,w'.heap.size<=k->r' k=.no)(hB:w'.heap[c'.blk]?=some (.cells #[.int .i64 c'.at',.chan (some c'.chn),.int .i64 c'.lost] 128 (0,0)))(hC:r' c'.chn=.ch c'.num/\∃s q tm,w'.heap[c'.chn]?=some (.chan 16 (c'.box.map bv).toArray false s q tm))(hX:∀i x,c'.box[i]?=some x->EvI (.ix c.num i) r' w' x):Tm T r' w' Xs qs (m1++c'::m2):=by
 have hmem:c∈m1++c::m2:=aE.2 (Or.inr (bC));have rb:=(h.k.blk c hmem).1;have rc:=(h.k.chn c hmem).1;have nb:∀{k:Nat},r k≠.cl c.num->k≠c.blk:=fun h1 e=>h1 (by rw[e];exact rb);have nc:∀{k:Nat},r k≠.ch c.num->k≠c.chn:=fun h1 e=>h1 (by rw[e];exact rc);have keep:∀k,k<w.heap.size->r k≠.cl c.num->r k≠.ch c.num->w'.heap[k]?=w.heap[k]?:=fun k h1 h2 h3=>hk k h1 (nb h2) (nc h3);have old:∀x,x∈m1++c'::m2->x=c'\/(x∈m1++c::m2/\x.num≠c.num):=fun x hx=>by
  rcases aE.1 hx with h1|h1
  ·exact Or.inr ⟨aE.2 (Or.inl h1),h.apartC (Or.inl h1)⟩
  ·rcases aN.1 h1 with h1|h1
   ·exact Or.inl h1
   ·exact Or.inr ⟨aE.2 (Or.inr (bE _ h1)),h.apartC (Or.inr h1)⟩
 refine⟨h.b.keep hs (fun k h1 h2=>keep k h1 ?_ ?_) hr ht,h.h.keep hs (fun k h1 h2=>keep k h1 ?_ ?_) hr,h.l.keep hs (fun k h1 h2=>keep k h1 ?_ ?_) hr,?_⟩
 ·rcases h2 with h2|h2<;>(rw[h2];exact fun e=>by cases e)
 ·rcases h2 with h2|h2<;>(rw[h2];exact fun e=>by cases e)
 ·rcases h2 with h2|⟨_,h2⟩<;>(rw[h2];exact fun e=>by cases e)
 ·rcases h2 with h2|⟨_,h2⟩<;>(rw[h2];exact fun e=>by cases e)
 ·rcases h2 with h2|h2|⟨_,_,h2⟩<;>(rw[h2];exact fun e=>by cases e)
 ·rcases h2 with h2|h2|⟨_,_,h2⟩<;>(rw[h2];exact fun e=>by cases e)
 ·obtain⟨es,clock,hm⟩:=h.k.mp;have hcm:=h.k.cm;have ecv:(m1++c'::m2).map cv=(m1++c::m2).map cv:=by simp only[aS,bH];rw[show cv c'=cv c by simp[cv,hn,hb]]
  refine⟨(hr _ hm.lt).trans hcm,⟨es,clock,?_⟩,fun x hx=>?_,fun x hx=>?_,fun x hx=>?_,fun x hx i y hy=>?_⟩
  ·rw[ecv];exact hm.kept (keep _ hm.lt (by rw[hcm];exact fun e=>by cases e) (by rw[hcm];exact fun e=>by cases e))
  ·rcases old x hx with rfl|⟨h1,_⟩
   ·rw[hn,ha];exact h.k.num c hmem
   ·exact h.k.num x h1
  ·rcases old x hx with rfl|⟨h1,h2⟩
   ·refine⟨?_,hB⟩;rw[hb,hn,hr _ (fZ (h.k.blk c hmem).2)];exact rb
   ·obtain⟨k1,k2⟩:=h.k.blk x h1;have hl:=fZ k2;exact⟨(hr _ hl).trans k1,(keep _ hl (by rw[k1];exact fun e=>h2 (by injection e)) (by rw[k1];exact fun e=>by cases e)).trans k2⟩
  ·rcases old x hx with rfl|⟨h1,h2⟩
   ·exact hC
   ·obtain⟨k1,s,q,tm,k2⟩:=h.k.chn x h1;have hl:=fZ k2;exact⟨(hr _ hl).trans k1,s,q,tm,(keep _ hl (by rw[k1];exact fun e=>by cases e) (by rw[k1];exact fun e=>h2 (by injection e))).trans k2⟩
  ·rcases old x hx with rfl|⟨h1,_⟩
   ·rw[hn];exact hX i y hy
   ·exact(h.k.box x h1 i y hy).keep hs (fun k h1 h2=>keep k h1 (by rw[h2];exact fun e=>by cases e) (by rw[h2];exact fun e=>by cases e)) hr
end
structure HrC(c c':Cl)(e:List Atr):Prop where
 num:c'.num=c.num
 at':c'.at'=c.at'
 blk:c'.blk=c.blk
 chn:c'.chn=c.chn
 yes:c.box.length<16->c'.box.map (·.1)=c.box.map (·.1)++[e]/\c'.lost=c.lost
 no:16<=c.box.length->c'.box=c.box/\c'.lost=c.lost+1
theorem tH{b:Nat}{x y z u:Value}{t:TypeId}(h:w.heap[b]?=some (.cells #[x,y,z] t (0,0))):(w.setCell ⟨b,2,none⟩ u).heap[b]?=some (.cells #[x,y,u] t (0,0)):=by
 have hl:=fZ h;have h':w.heap[b]=.cells #[x,y,z] t (0,0):=by rw[bU hl] at h;injection h
 show(w.heap.modify b _)[b]?=_;rw[bU (by simpa using hl),Array.getElem_modify_self,h'];rfl
section
variable {T:Tc}{r:Nat->Rl}{w:World}{Xs:Nat->List Hm}{qs:Nat->Nat->List Mm}{m1 m2:List Cl}{c:Cl}
theorem Tm.hearIn(h:Tm T r w Xs qs (m1++c::m2)){w1:World}(g1:Gr w w1){e:List Atr}{g cp s q:Nat}(h1:w.heap.size<=g/\g<w1.heap.size/\EvM w1 (some ⟨g,0,none⟩) e)(h0:w1.ownsRow 0 86 4 (.slice (some ⟨g,0,none⟩) e.length cp) e.length (iK e))(hroom:c.box.length<16):∃r' c',(Tm T r' (w1.setChan c.chn 16 (c.box.map bv++[Value.slice (some ⟨g,0,none⟩) e.length cp]).toArray false s q tm) Xs qs (m1++c'::m2)/\Fr r r' w (w1.setChan c.chn 16 (c.box.map bv++[Value.slice (some ⟨g,0,none⟩) e.length cp]).toArray false s q tm))/\HrC c c' e:=by
 have hmem:c∈m1++c::m2:=aE.2 (Or.inr (bC));obtain⟨rB,hB⟩:=h.k.blk c hmem;obtain⟨rC,s0,q0,tm0,hC⟩:=h.k.chn c hmem;have lC:=fZ hC;have lB:=fZ hB;have hs:=g1.size;have hne:c.blk≠c.chn:=fun e=>by rw[e,rC] at rB;cases rB
 have hsame:∀k,k<w.heap.size->(if k=g then Rl.ix c.num c.box.length else r k)=r k:=fun k hk=>if_neg (by omega);refine⟨fun k=>if k=g then .ix c.num c.box.length else r k,{ c with box:=c.box++[(e,some ⟨g,0,none⟩,cp)] },⟨h.client { c with box:=c.box++[(e,some ⟨g,0,none⟩,cp)] } rfl rfl rfl (by rw[kD];exact hs) (fun k hk h2 h3=>?_) hsame (fun k hk=>?_) ?_ ⟨?_,s,q,tm,?_⟩ (fun i x hx=>?_),⟨g1.os,g1.tape,g1.output,by rw[kD];exact hs,fun k hk hr=>?_,hsame⟩⟩,⟨rfl,rfl,rfl,rfl,fun _=>⟨by simp,rfl⟩,fun h=>absurd hroom (by omega)⟩⟩
 ·rw[iQ h3];exact g1.block k hk
 ·rw[kD] at hk;show(if k=g then Rl.ix c.num c.box.length else r k)=.no;rw[if_neg (by omega)];exact h.b.top k (by omega)
 ·show _=some (Obj.cells #[.int .i64 c.at',.chan (some c.chn),.int .i64 c.lost] _ _);rw[iQ hne];exact(g1.block _ lB).trans hB
 ·exact(hsame _ lC).trans rC
 ·rw[rM (by omega)];simp[bv]
 ·have hx:(c.box++[(e,some ⟨g,0,none⟩,cp)])[i]?=some x:=hx;rcases cG i c.box.length with hi|hi
  ·rw[cV hi] at hx;refine(h.k.box c hmem i x hx).keep (by rw[kD];exact hs) (fun k hk hf=>?_) hsame;rw[iQ (fun e=>by rw[e,rC] at hf;cases hf)];exact g1.block k hk
  ·rw[bS hi] at hx;(have hi2:i-c.box.length=0:=by have:=(bN.1 hx).1;simp only[fN] at this;omega);rw[hi2] at hx;(obtain rfl:(e,some (⟨g,0,none⟩:Addr),cp)=x:=by simpa using hx);rw[show i=c.box.length by omega];obtain⟨⟨b,off,e1,e2,e3⟩,e4,e5⟩:=h1.2.2;injection e1 with e1;injection e1 with e1 e6;(have hgc:g≠c.chn:=by omega);refine⟨⟨⟨b,off,by rw[e1,e6],by rw[kD];exact e2,e3.blk (iQ (by omega))⟩,e4,e5⟩,mJ h0 (fun q _ e=>iQ ?_),g,rfl,if_pos rfl⟩;have e':some g=some q:=e;injection e' with e';rw[<-e'];exact hgc
 ·rw[iQ (fun e=>by rw[e,rC] at hr;rcases hr with hr|hr<;>cases hr)];exact g1.block k hk
theorem Tm.hearOut(h:Tm T r w Xs qs (m1++c::m2)){w1:World}(g1:Gr w w1)(e:List Atr)(hroom:¬c.box.length<16):∃r' c',(Tm T r' (w1.setCell ⟨c.blk,2,none⟩ (.int .i64 (c.lost+1))) Xs qs (m1++c'::m2)/\Fr r r' w (w1.setCell ⟨c.blk,2,none⟩ (.int .i64 (c.lost+1))))/\HrC c c' e:=by
 have hmem:c∈m1++c::m2:=aE.2 (Or.inr (bC));obtain⟨rB,hB⟩:=h.k.blk c hmem;obtain⟨rC,s0,q0,tm0,hC⟩:=h.k.chn c hmem;have lC:=fZ hC;have lB:=fZ hB;have hs:=g1.size;have hne:c.chn≠c.blk:=fun e=>by rw[e,rB] at rC;cases rC
 have ot:∀k,k<w.heap.size->k≠c.blk->(w1.setCell ⟨c.blk,2,none⟩ (.int .i64 (c.lost+1))).heap[k]?=w.heap[k]?:=fun k hk hn=>(Below.heap_setCell w1 _ _ k hn).trans (g1.block k hk);refine⟨r,{ c with lost:=c.lost+1 },⟨h.client { c with lost:=c.lost+1 } rfl rfl rfl (by rw[gY];exact hs) (fun k hk h2 _=>ot k hk h2) (fun _ _=>rfl) (fun k hk=>?_) ?_ ⟨rC,s0,q0,tm0,?_⟩ (fun i x hx=>?_),⟨g1.os,g1.tape,g1.output,by rw[gY];exact hs,fun k hk hr=>ot k hk ?_,fun _ _=>rfl⟩⟩,⟨rfl,rfl,rfl,rfl,fun h=>absurd h hroom,fun _=>⟨rfl,rfl⟩⟩⟩
 ·rw[gY] at hk;exact h.b.top k (by omega)
 ·exact tH ((g1.block _ lB).trans hB)
 ·exact(ot _ lC hne).trans hC
 ·exact(h.k.box c hmem i x hx).keep (by rw[gY];exact hs) (fun k hk hf=>ot k hk (fun e=>by rw[e,rB] at hf;cases hf)) (fun _ _=>rfl)
 ·exact fun e=>by rw[e,rB] at hr;rcases hr with hr|hr<;>cases hr
end
theorem aAA(T:Tc)(r:Nat->Rl)(w:World)(Xs:Nat->List Hm)(qs:Nat->Nat->List Mm)(m1 m2:List Cl)(c:Cl)(e:List Atr)(ad:Option Addr)(cap:Nat)(hT:Tm T r w Xs qs (m1++c::m2))(he:EvR r w ad e)(hl:0<=c.lost/\c.lost<4611686018427387904):Calls prog 84 #[.pointer (some ⟨c.blk,0,none⟩),.slice ad e.length cap] w fun x w'=>x=.returned (.tuple #[])/\(∃r' c',(Tm T r' w' Xs qs (m1++c'::m2)/\Fr r r' w w')/\HrC c c' e)/\w'.heap[T.CB]?=w.heap[T.CB]?:=by
 have hmem:c∈m1++c::m2:=aE.2 (Or.inr (bC));have hCB:T.CB<w.heap.size/\T.CB≠c.blk/\T.CB≠c.chn:=⟨hT.b.lt (by rw[hT.k.cm];exact fun e=>by cases e),(fun e=>by have:=hT.k.cm;rw[e,(hT.k.blk c hmem).1] at this;cases this),(fun e=>by have:=hT.k.cm;rw[e,(hT.k.chn c hmem).1] at this;cases this)⟩;have HCB:=hZ hCB;clear hCB;have hB:=(hT.k.blk c hmem).2;have rB:=(hT.k.blk c hmem).1;obtain⟨rC,s,q,tm,hC⟩:=hT.k.chn c hmem;have c1:w.cell? ⟨c.blk,1,none⟩=some (.chan (some c.chn)):=by rw[cZ hB];rfl
 have CP:=hZ (Um e ad cap w he.m);have HB:=hZ hB;have HC:=hZ hC;have HE:=hZ he;have HT:=hZ hT;have HR:=hZ (And.intro rB rC);have HL:=hZ hl;clear hB hC he hT rB rC hmem;refine vJ (fn:=Tryz.f84) func84 rfl ?_;simp only[ntmps84,cS,bA,cF,Nat.reduceAdd,Nat.reduceSub,Array.replicate_succ,Array.replicate_zero,List.push_toArray,List.append_toArray,bM,bD];refine tY (fun K hK=>?_);go_wp2_with fail;refine CP.mono ?_;rintro x w1 ⟨g,cp,rfl,h1,h0,g1⟩;have H0:=hZ h0;have H1:=hZ h1;have hB1:w1.heap[c.blk]?=_:=(g1.block _ (fZ HB.out)).trans HB.out;have hC1:w1.heap[c.chn]?=_:=(g1.block _ (fZ HC.out)).trans HC.out;have f2:w1.frozen? ⟨c.blk,2,none⟩=false:=frozen_of_row _ _ _ _ _ hB1;have c2:w1.cell? ⟨c.blk,2,none⟩=some (.int .i64 c.lost):=by rw[cZ hB1];rfl
 have HB1:=hZ hB1;have HC1:=hZ hC1;have G1:=hZ g1;clear h1 h0 hB1 hC1 g1 CP;go_wp2_with fail;refine yB (fun K hK=>?_);by_cases hroom:c.box.length<16
 ·refine tZ rfl (As rfl (v:=.slice (some ⟨g,0,none⟩) e.length cp) (z:=.slice none 0 0) (by simp[go_sem,execOp,Go.Conc.scase,Act.eval]) HC1.out (by simpa using hroom)) ?_;go_wp2_with fail;exact bodyPost_end (v:=.tuple #[]) (by simp[results,results84,go_sem]) rfl ⟨rfl,HT.hearIn G1.out H1.out H0.out hroom,(iQ HCB.2.2).trans (G1.block _ HCB.1)⟩
 ·refine tZ rfl (At rfl (v:=.slice (some ⟨g,0,none⟩) e.length cp) (z:=.slice none 0 0) (by simp[go_sem,execOp,Go.Conc.scase,Act.eval]) HC1.out (by simpa using hroom)) ?_;go_wp2_with fail;exact bodyPost_end (v:=.tuple #[]) (by simp[results,results84,go_sem]) rfl ⟨rfl,HT.hearOut G1.out e hroom,(Below.heap_setCell _ _ _ _ HCB.2.1).trans (G1.block _ HCB.1)⟩
open Go.Maps (Keyed)
open Go.ChangeMaps (setBlock)
theorem Yf{X:List Hm}{l:List Hw}(hl:∀g,g∈l↔∃x∈X,x.1=g)(s:Bool×Int)(e:List Atr):(X.any fun x=>sdP s x&&mat e x.1.f)=lP mat l s e:=by
 rw[eL];simp only[lP,sdP,bT];constructor
 ·rintro⟨x,h1,h2⟩;exact⟨x.1,(hl _).2 ⟨x,h1,rfl⟩,h2⟩
 ·rintro⟨g,h1,h2⟩;obtain⟨x,hx,rfl⟩:=(hl g).1 h1;exact⟨x,hx,h2⟩
theorem Lh{r:Nat->Rl}{qs:Nat->Nat->List Mm}(hT:Tm T r w Xs qs cls){b:Nat}(hb:b<T.nb){l:List Hw}(hl:∀g,g∈l↔∃x∈Xs b,x.1=g)(hX:(Xs b).length<=1048576)(s:Bool×Int)(e:List Atr)(ad:Option Addr)(cap:Nat)(he:EvM w ad e):Calls prog 83 #[.pointer (some ⟨T.TB,0,none⟩),.int .i64 b,.agg #[.bool s.1,.int .i64 s.2],.slice ad e.length cap] w fun x w'=>x=.returned (.bool (lP mat l s e))/\Gr w w':=by obtain⟨es,clock,hp⟩:=hT.hp hb;rw[<-Yf hl];exact Ux T.TB T.HB 0 T.nb T.hcap b (T.MB b) s e ad cap (Xs b) es clock T.ml w hT.b.c0 (by rw[cE];exact hT.b.hb b hb) hb hT.tlt hT.hlt hX hp he hT.b.ml
theorem aAR(h:Hw)(n:Nat):sd h=(false,(n:Int))↔h.fr=(n:Int):=by
 unfold sd;split
 ·rename_i h1;constructor
  ·intro e;injection e with e;cases e
  ·intro e;omega
 ·constructor
  ·intro e;injection e
  ·intro e;rw[e]
theorem Ye(l:List Hw)(n:Nat)(e:List Atr):lP mat l (false,(n:Int)) e=l.any fun h=>h.fr==(n:Int)&&mat e h.f:=by
 unfold lP;congr 1;funext h;have:=aAR h n;by_cases hh:h.fr=(n:Int)
 ·rw[decide_eq_true (this.2 hh),hh];simp
 ·rw[decide_eq_false (fun h1=>hh (this.1 h1))];have:(h.fr==(n:Int))=false:=by simpa using hh
  rw[this]
def wH(dn:List Int)(l:List Hw)(fr:Bool×Int)(e:List Atr)(c:Pc (List Atr)):Pc (List Atr):=if c.num∈dn then jA mat l fr e c else c
structure Vs(cls cls':List Cl)(dn:List Int)(l:List Hw)(fr:Bool×Int)(e:List Atr):Prop where
 cv:cls'.map cv=cls.map cv
 pc:cls'.map jH=(cls.map jH).map (wH dn l fr e)
def Dn(es:Array MapEntry)(seen:Array Nat)(dn:List Int):Prop:=∀e∈es.toList,(seen.contains e.born=true↔∃n∈dn,e.key=.int .i64 n)
theorem Wk{c c':Cl}{e:List Atr}(h:HrC c c' e):jH c'=(jH c).hear e:=by
 have hl:(jH c).box.length=c.box.length:=by simp[jH]
 unfold Pc.hear;rw[hl];by_cases hb:c.box.length<16
 ·rw[if_pos hb];obtain⟨h1,h2⟩:=h.yes hb;simp only[jH,h.num,h.at',h1,h2]
 ·rw[if_neg hb];obtain⟨h1,h2⟩:=h.no (by omega);simp only[jH,h.num,h.at',h1,h2]
theorem Vs.at_{l:List Hw}{fr:Bool×Int}{e:List Atr}(h:Vs cls cls' dn l fr e){c:Cl}(hc:c∈cls):∃m1 c1 m2,cls'=m1++c1::m2/\c1.num=c.num/\c1.blk=c.blk:=by
 have:Go.Proofs.YtecnfgikbmcgoabGreat.cv c∈cls'.map Go.Proofs.YtecnfgikbmcgoabGreat.cv:=by rw[h.cv];exact aQ hc
 obtain⟨c1,h1,h2⟩:=aC.1 this;obtain⟨m1,m2,rfl⟩:=List.append_of_mem h1;refine⟨m1,c1,m2,rfl,?_,?_⟩
 ·have:=congrArg Prod.fst h2;simp only[Go.Proofs.YtecnfgikbmcgoabGreat.cv] at this;injection this
 ·have:=congrArg Prod.snd h2;simp only[Go.Proofs.YtecnfgikbmcgoabGreat.cv] at this;injection this with this;injection this with this;injection this
theorem Vs.turn{m1 m2:List Cl}{c1 c2:Cl}{l:List Hw}{fr:Bool×Int}{e:List Atr}(h:Vs cls (m1++c1::m2) dn l fr e)(hn:c1.num∉dn)(hd:∀x,x∈m1\/x∈m2->x.num≠c1.num)(h2:jH c2=jA mat l fr e (jH c1))(hb:c2.blk=c1.blk):Vs cls (m1++c2::m2) (c1.num::dn) l fr e:=by
 have hnum:c2.num=c1.num:=by have:=congrArg Pc.num h2;rw[(qV (mt:=mat) l fr e (jH c1)).1] at this;exact this
 refine⟨?_,?_⟩
 ·rw[<-h.cv];simp only[aS,bH];rw[show Go.Proofs.YtecnfgikbmcgoabGreat.cv c2=Go.Proofs.YtecnfgikbmcgoabGreat.cv c1 by simp[Go.Proofs.YtecnfgikbmcgoabGreat.cv,hnum,hb]]
 ·have hpc:=h.pc;rw[aS,bH] at hpc;obtain⟨a,b,e0,e1,e2⟩:=List.map_eq_append_iff.1 hpc.symm;obtain⟨x,t,e3,e4,e5⟩:=eU.1 e2;subst e3;have hx:x=jH c1:=by
   have hxn:x.num=c1.num:=by
    have:=congrArg Pc.num e4;unfold wH at this;split at this
    ·rw[(qV (mt:=mat) l fr e x).1] at this;exact this
    ·exact this
   unfold wH at e4;rw[hxn,if_neg hn] at e4;exact e4
  have oth:∀(m:List Cl)(q:List (Pc (List Atr))),(∀z∈m,z.num≠c1.num)->q.map (wH dn l fr e)=m.map jH->m.map jH=q.map (wH (c1.num::dn) l fr e):=by
   intro m q hm hq;rw[<-hq];refine cC fun y hy=>?_;(have:wH dn l fr e y∈m.map jH:=by rw[<-hq];exact aQ hy);obtain⟨z,hz,hzy⟩:=aC.1 this;have hyn:y.num≠c1.num:=by
    have h3:=congrArg Pc.num hzy;have h4:=hm z hz;unfold wH at h3;split at h3
    ·rw[(qV (mt:=mat) l fr e y).1] at h3;rw[<-h3];exact h4
    ·rw[<-h3];exact h4
   unfold wH;by_cases hyd:y.num∈dn
   ·rw[if_pos hyd,if_pos (bE _ hyd)]
   ·rw[if_neg hyd,if_neg (fun h5=>by rcases aN.1 h5 with h5|h5<;>contradiction)]
  rw[e0,aS,aS,bH,bH,oth m1 a (fun z hz=>hd z (Or.inl hz)) e1,oth m2 t (fun z hz=>hd z (Or.inr hz)) e5,h2,hx];congr 2;exact(if_pos (show(jH c1).num∈c1.num::dn from bC)).symm
theorem Vs.skip{m1 m2:List Cl}{c1:Cl}{l:List Hw}{fr:Bool×Int}{e:List Atr}(h:Vs cls (m1++c1::m2) dn l fr e)(hn:c1.num∉dn)(hd:∀x,x∈m1\/x∈m2->x.num≠c1.num)(h2:¬((true,c1.num)≠fr/\lP mat l (true,c1.num) e=true)):Vs cls (m1++c1::m2) (c1.num::dn) l fr e:=h.turn hn hd (by unfold jA;rw[if_neg (by exact h2)]) rfl
theorem Vs.init{l:List Hw}{fr:Bool×Int}{e:List Atr}:Vs cls cls [] l fr e:=⟨rfl,by rw[cC (g:=id) (fun c _=>by unfold wH;rw[if_neg (by simp)];rfl)];simp⟩
theorem Vs.all{l:List Hw}{fr:Bool×Int}{e:List Atr}(h:Vs cls cls' dn l fr e)(hd:∀c∈cls,c.num∈dn):cls'.map jH=(cls.map jH).map (jA mat l fr e):=by rw[h.pc];refine cC fun c hc=>?_;obtain⟨x,hx,rfl⟩:=aC.1 hc;unfold wH;rw[if_pos (by exact hd x hx)]
theorem Dn.push(h:Dn es seen dn)(hb:(es.toList.map (·.born)).Nodup){e0:MapEntry}(he:e0∈es.toList){n:Int}(hk:e0.key=.int .i64 n)(hinj:∀e∈es.toList,e.key=.int .i64 n->e=e0):Dn es (seen.push e0.born) (n::dn):=by
 intro e hm;rw[contains_push,cN];constructor
 ·rintro(h1|h1)
  ·obtain⟨n',h2,h3⟩:=(h e hm).1 h1;exact⟨n',bE _ h2,h3⟩
  ·have:=born_inj hb hm he (beq_iff_eq.1 h1);subst this;exact⟨n,bC,hk⟩
 ·rintro⟨n',h2,h3⟩;rcases aN.1 h2 with rfl|h2
  ·rw[hinj e hm h3];exact Or.inr (by simp)
  ·exact Or.inl ((h e hm).2 ⟨n',h2,h3⟩)
theorem Wu{wr:World}{CB:Nat}{m:List (Value×Value)}{clock:Nat}(h:Mp prog 3 wr CB m es clock)(hit:wr.heap[IT]?=some (.mapIter (some CB) clock seen clock)):((leftOf es seen).size=0/\∀ty,(Instr.next (.pointer (some ⟨IT,0,none⟩)) false ty).run prog wr=.ok (.tuple #[.bool false]) wr) \/∃e∈(leftOf es seen).toList,∃W2:World,(∀ty,(Instr.next (.pointer (some ⟨IT,0,none⟩)) false ty).run prog wr=.ok (.tuple #[.bool true,e.key,e.val]) W2)/\(Instr.entry (.pointer (some ⟨IT,0,none⟩))).run prog W2=.ok (.tuple #[e.key,e.val]) W2 /\W2.heap[IT]?=some (.mapIter (some CB) clock (seen.push e.born) clock)/\(∀k,k≠IT->W2.heap[k]?=wr.heap[k]?)/\W2.heap.size=wr.heap.size/\W2.os=wr.os/\W2.tape=wr.tape/\W2.output=wr.output:=by
 rcases run_next_at (P:=prog) wr 0 IT CB clock clock seen es clock hit h.blk h.brn lZ with⟨h0,hr⟩|⟨e,he,w1,hw1,hr⟩
 ·exact Or.inl ⟨h0,fun _=>hr⟩
 ·have hne:CB≠IT:=by intro e';have:=h.blk;rw[e',hit] at this;cases this
  have hh:w1.heap=wr.heap/\w1.os=wr.os/\w1.tape=wr.tape/\w1.output=wr.output:=by rcases hw1 with rfl|rfl<;>exact⟨rfl,rfl,rfl,rfl⟩
  have hit1:w1.heap[IT]?=some (.mapIter (some CB) clock seen clock):=by rw[hh.1];exact hit
  refine Or.inr ⟨e,he,setBlock w1 IT (.mapIter (some CB) clock (seen.push e.born) clock),fun _=>hr,?_,jR hit1,fun k hk=>by rw[gR hk,hh.1],by simp[setBlock,hh.1],hh.2.1,hh.2.2.1,hh.2.2.2⟩;refine run_entry_at _ IT CB clock seen es clock e (jR hit1) ?_ (mem_left he).1 h.bnd;rw[gR hne,hh.1];exact h.blk
theorem Tm.iter{r:Nat->Rl}{qs:Nat->Nat->List Mm}(h:Tm T r w Xs qs cls)(hr:r IT=.no)(h0:IT≠0)(ho:∀k,k≠IT->w'.heap[k]?=w.heap[k]?)(hs:w'.heap.size=w.heap.size)(e1:w'.os=w.os)(e2:w'.tape=w.tape)(e3:w'.output=w.output):Tm T r w' Xs qs cls/\Fr (fun k=>if k=IT then .cm else .no) (fun k=>if k=IT then .cm else .no) w w':=by
 have F:Fr (fun k=>if k=IT then .cm else .no) (fun k=>if k=IT then .cm else .no) w w':=⟨e1,e2,e3,by rw[hs];exact lZ,fun k _ hk=>ho k (fun e=>by rw[if_pos e] at hk;rcases hk with hk|hk<;>cases hk),fun _ _=>rfl⟩;refine⟨h.apart F (fun k=>?_) (if_neg (fun e=>h0 e.symm)),F⟩;by_cases hk:k=IT
 ·exact Or.inl (by rw[hk];exact hr)
 ·exact Or.inr (if_neg hk)
theorem Vs.lost{l:List Hw}{fr:Bool×Int}{e:List Atr}(h:Vs cls cls' dn l fr e){B:Int}(hl:∀c∈cls,0<=c.lost/\c.lost<B):∀c∈cls',0<=c.lost/\c.lost<B+1:=by
 intro c hc;have:jH c∈(cls.map jH).map (wH dn l fr e):=by rw[<-h.pc];exact aQ hc
 obtain⟨d,hd,he⟩:=aC.1 this;obtain⟨x,hx,rfl⟩:=aC.1 hd;have h1:=hl x hx;have h2:=rY (mt:=mat) l fr e (jH x);have h3:c.lost=(wH dn l fr e (jH x)).lost:=by rw[he];rfl
 have h4:(jH x).lost=x.lost:=rfl;unfold wH at h3;split at h3<;>omega
def frn(fr:Bool×Int):Int:=if fr.1 then -1 else fr.2
def SpP(T:Tc)(r:Nat->Rl)(w:World)(cls:List Cl)(s:Ts)(b:Nat)(fr:Bool×Int)(e:List Atr)(w':World):Prop:=∃r' cls',Tw T r' w' cls' (s.come T.adj mat b (frn fr) e)/\cls'.map jH=(cls.map jH).map (jA mat (s.held b) fr e)/\Fr r r' w w'
def Ay(l:List Hw)(fr:Bool×Int)(e:List Atr)(n:Nat):List (Ms (List Wnt) (List Atr)):=if(false,(n:Int))≠fr/\lP mat l (false,(n:Int)) e=true then[.ev e] else[]
theorem Ll{fr:Bool×Int}{n:Nat}:(false,(n:Int))≠fr↔(n:Int)≠frn fr:=by
 unfold frn;obtain⟨f1,f2⟩:=fr;cases f1 with
 |true=>simp
 |false=>simp
theorem Vr{qs qs':Nat->Nat->List Mm}{s:Ts}(v:Vw T Xs qs s)(hadj:∀a b,T.adj a b=true->a<T.nb/\b<T.nb){b:Nat}{fr:Bool×Int}{e:List Atr}(hq:∀x y,(qs' x y).map Mm.ms=jV (fun x y=>(qs x y).map Mm.ms) b (Ay (s.held b) fr e) (nbs T.adj T.nb b T.nb) x y):Vw T Xs qs' (s.come T.adj mat b (frn fr) e):=by
 refine⟨v.held,fun x y=>?_⟩;rw[hq x y];simp only[TS.come,jV];rw[<-v.q];by_cases hx:x=b
 ·subst hx;by_cases hy:T.adj x y=true
  ·have hm:y∈nbs T.adj T.nb x T.nb:=kV.2 ⟨(hadj x y hy).2,(hadj x y hy).2,hy⟩;rw[if_pos (c:=x=x/\y∈_) ⟨rfl,hm⟩];unfold Ay;rw[Ye];by_cases hc:(false,(y:Int))≠fr/\((s.held x).any fun h=>h.fr==(y:Int)&&mat e h.f)=true
   ·rw[if_pos hc,if_pos ⟨rfl,hy,Ll.1 hc.1,hc.2⟩]
   ·rw[if_neg hc,if_neg (fun e=>hc ⟨Ll.2 e.2.2.1,e.2.2.2⟩),aZ]
  ·rw[if_neg (fun e=>hy e.2.1),if_neg (fun e=>hy (kV.1 e.2).2.2),aZ]
 ·rw[if_neg (fun e=>hx e.1),if_neg (fun e=>hx e.1),aZ]
theorem Ff(T:Tc)(r:Nat->Rl)(w:World)(Xs:Nat->List Hm)(qs:Nat->Nat->List Mm)(cls:List Cl)(s:Ts)(b:Nat)(fr:Bool×Int)(e:List Atr)(ad:Option Addr)(cap:Nat)(hT:Tm T r w Xs qs cls)(v:Vw T Xs qs s)(hb:b<T.nb)(he:EvR r w ad e)(hm:Sm T s)(hl:∀c∈cls,0<=c.lost/\c.lost<4611686018427387903):Calls prog 51 #[.pointer (some ⟨T.TB,0,none⟩),.int .i64 b,.agg #[.bool fr.1,.int .i64 fr.2],.slice ad e.length cap] w fun x w'=>x=.returned (.tuple #[])/\SpP T r w cls s b fr e w':=by
 obtain⟨es,clock,hmp⟩:=hT.k.mp;have ga:Gr w (w.alloc (.cells #[.bool fr.1,.int .i64 fr.2] 143)):=(Gr.refl w).alloc _;have hrg:=run_range_map (P:=prog) (w.alloc (.cells #[.bool fr.1,.int .i64 fr.2] 143)) 106 3 118 T.CB es clock underlying106 ((hmp.kept (ga.block _ hmp.lt)).blk);have hsz:(w.alloc (.cells #[.bool fr.1,.int .i64 fr.2] 143)).heap.size=w.heap.size+1:=by simp
 rw[hsz] at hrg;have c1:=(hT.gr ga).b.c1;have HT:=hZ hT;have HV:=hZ v;have HE:=hZ he;have HM:=hZ hm;have HL:=hZ hl;have HMP:=hZ hmp;have GA:=hZ ga;clear hT v he hm hl hmp ga hsz;go_enter func51,ntmps51;go_wp2_with fail;have H0:=hZ (gK (gZ.alloc (.mapIter (some T.CB) clock #[] clock)) (fY w (.cells #[.bool fr.1,.int .i64 fr.2] 143)));have I0:Hid (((w.alloc (.cells #[.bool fr.1,.int .i64 fr.2] 143)).alloc (.mapIter (some T.CB) clock #[] clock)).heap[w.heap.size+1]?=some (.mapIter (some T.CB) clock #[] clock)):=by have:=fY (w.alloc (.cells #[.bool fr.1,.int .i64 fr.2] 143)) (.mapIter (some T.CB) clock #[] clock);rw[show(w.alloc (.cells #[.bool fr.1,.int .i64 fr.2] 143)).heap.size=w.heap.size+1 by simp] at this;exact this
 have G0:=hZ (GA.alloc (.mapIter (some T.CB) clock #[] clock));have M0:=hZ (HMP.kept (G0.block _ HMP.lt));have T0:=hZ (HT.gr G0.out);have N0:Hid (r (w.heap.size+1)=.no/\r w.heap.size=.no):=⟨HT.b.top _ (cD _),HT.b.top _ lZ⟩;have HW0:=HT.b.ml.pos;clear hrg GA c1;go_loopw [] (fun wr=>∃(seen:Array Nat)(dn:List Int)(r':Nat->Rl)(cls':List Cl),Hid (wr.heap[w.heap.size+1]?=some (.mapIter (some T.CB) clock seen clock))/\Hid (wr.heap[w.heap.size]?=some (.cells #[.bool fr.1,.int .i64 fr.2] 143 (0,0)))/\Hid (Tm T r' wr Xs qs cls')/\Hid (Fr r r' w wr)/\Hid (r' (w.heap.size+1)=.no/\r' w.heap.size=.no) /\Hid (Mp prog 3 wr T.CB (cls.map cv) es clock)/\Hid (Vs cls cls' dn (s.held b) fr e)/\Hid (Dn es seen dn)) (fun wr=>(leftOf es (wr.iterSeen (w.heap.size+1))).size);case atStart=>exact⟨#[],[],r,cls,I0,H0,T0,Fr.gr G0.out,N0,M0,Vs.init,fun e _=>by simp⟩
 case round=>
  clear I0 H0 T0 G0 M0;obtain⟨seen,dn,r',cls',IT,B1,T1,F1,N1,M1,V1,D1⟩:=hrel;have HMS:Hid (leftOf es (wr.iterSeen (w.heap.size+1))=leftOf es seen):=by show _=_;unfold World.iterSeen;rw[IT.out]
  rcases Wu M1.out IT.out with⟨h0,hnx⟩|⟨e0,he0,W2,hnx,hen,hit2,hoth,hsz2,o1,o2,o3⟩
  ·have DONE:Hid (cls'.map jH=(cls.map jH).map (jA mat (s.held b) fr e)):=V1.all (fun c hc=>by
    (have:cv c∈es.toList.map (fun e=>(e.key,e.val)):=by rw[M1.ent];exact aQ hc);obtain⟨e1,he1,hee⟩:=aC.1 this;obtain⟨n,hn,hk⟩:=(D1 e1 he1).1 (all_seen es seen h0 e1 he1);injection hee with h1 h2;rw[hk] at h1;injection h1 with _ h1;rw[<-h1];exact hn)
   have NBS:=hZ (nD (T:=T) (r:=r') (w0:=wr) (Xs:=Xs) (cls:=cls') (base:=fun x y=>(qs x y).map Mm.ms) ⟨r',qs,T1.out,Fr.refl _ _,fun _ _=>rfl⟩ hb);have NMEM:Hid (∀n,n∈nbs T.adj T.nb b T.nb->n<T.nb/\T.adj b n=true):=fun n hn=>(kV.1 hn).2;have NND:=hZ (Dj T.adj T.nb b T.nb);have NLE:=wA T.adj T.nb b T.nb;have HNB:=T1.b.nb8;have VC:Hid (∀qs':Nat->Nat->List Mm,(∀x y,(qs' x y).map Mm.ms=jV (fun x y=>(qs x y).map Mm.ms) b (Ay (s.held b) fr e) (nbs T.adj T.nb b T.nb) x y)->Vw T Xs qs' (s.come T.adj mat b (frn fr) e)):=fun qs' h=>Vr HV.out HT.b.adj h;clear h0 M1 V1 D1 HMS IT;generalize nbs T.adj T.nb b T.nb=NB at *;go_wp2_with fail;refine NBS.mono ?_;rintro x w1 ⟨v,rfl,ho,g1⟩;obtain⟨va,vk,rfl,hva⟩:=gH ho;have O1:=hZ ho;have H1:Hid (Ho T r' w1 Xs cls' (jV (fun x y=>(qs x y).map Mm.ms) b (Ay (s.held b) fr e) (NB.take 0)) w1):=⟨r',qs,T1.gr g1,Fr.refl _ _,fun x y=>by rw[bY,zB]⟩;have HVA:=hZ hva;have B3:=hZ (gK g1 B1.out);have F3:=hZ (F1.trans (Fr.gr (r:=r') g1));have TOP:=hZ T1.b.top;have G1:=hZ g1;clear NBS ho g1 hva B1;go_wp2_with fail;go_loopw [43] (fun i w2=>∃q:Nat,q<=NB.length/\i=.int .i64 q/\Hid (Ho T r' w1 Xs cls' (jV (fun x y=>(qs x y).map Mm.ms) b (Ay (s.held b) fr e) (NB.take q)) w2)) (fun i _=>NB.length-(intOf i).toNat);case atStart=>exact⟨0,zZ,rfl,H1⟩
   case round=>
    obtain⟨q,hq,rfl,HO⟩:=hrel;clear H1;by_cases hlt:q<NB.length
    ·obtain⟨vb,rfl⟩:=HVA (by omega);have hB:=HO.blk B3.out (Or.inl N1.2);(have b0:wr.cell? ⟨w.heap.size,0,none⟩=some (.bool fr.1):=by rw[cZ hB];rfl);(have b1:wr.cell? ⟨w.heap.size,1,none⟩=some (.int .i64 fr.2):=by rw[cZ hB];rfl);have hws:=fZ hB;(have cq:wr.cell? ⟨vb,q,none⟩=some (.int .i64 (lG NB q)):=by obtain⟨r2,qs',z1,z2,z3⟩:=HO.out;rw[aH (z2.owns O1.out TOP.out) q (by omega)];simp[kT,lG,hlt]);have hmem:=NMEM _ (uT hlt);have STEP:=hZ (vW (q:=fun x y=>(qs x y).map Mm.ms) (b:=b) (out:=Ay (s.held b) fr e) NND.out hlt);have LEN:=hZ (zC (q:=fun x y=>(qs x y).map Mm.ms) (b:=b) (out:=Ay (s.held b) fr e) NND.out hlt);(have hlq:(qs b (lG NB q)).length<549755813888:=by rw[uC HV.out];exact HM.q _ _);clear hB;generalize lG NB q=n at *;have GX:=hZ ((Gr.refl wr).alloc (.cells #[.bool false,.int .i64 n] 143));have SKIP:Hid (¬((false,(n:Int))≠fr/\lP mat (s.held b) (false,(n:Int)) e=true)->∀w',Gr wr w'->Ho T r' w1 Xs cls' (jV (fun x y=>(qs x y).map Mm.ms) b (Ay (s.held b) fr e) (NB.take (q+1))) w'):=fun hno w' g=>(HO.gr g).cong fun x y=>by
      rw[STEP.out x y];have:(if x=b/\y=n then Ay (s.held b) fr e y else[])=[]:=by
       split
       ·rename_i hh;rw[hh.2];exact if_neg hno
       ·rfl
      rw[this,aZ]
     by_cases hA:(false,(n:Int))=fr
     ·have SK:=hZ (SKIP (fun h=>h.1 hA) _ GX.out);(obtain⟨h1,h2⟩:fr.1=false/\fr.2=(n:Int):=by rw[<-hA];exact⟨rfl,rfl⟩);clear SKIP;rw[h1] at b0;rw[h2] at b1;clear h1 h2;go_wp2_with fail;exact⟨⟨q+1,hlt,by simp,SK⟩,gD _ _ hlt⟩
     ·(have EVW:Hid (∀r2 w',Fr r' r2 w1 w'->EvR r2 w' ad e):=fun r2 w' k=>by have k2:=F3.trans k;exact HE.keep k2.size (fun i hi hr=>k2.keep i hi (Or.inr hr)) k2.same);have AK:Hid (∀W,Gr wr W->Calls prog 83 #[.pointer (some ⟨T.TB,0,none⟩),.int .i64 b,.agg #[.bool false,.int .i64 n],.slice ad e.length cap] W fun x w'=>x=.returned (.bool (lP mat (s.held b) (false,(n:Int)) e))/\Gr W w'):=fun W g=>by obtain⟨r2,qs',z1,z2,z3⟩:=HO.gr g;exact Lh z1 hb (HV.held b hb) (aA (vR HT.out HV.out hb) (HM.h b hb)) (false,(n:Int)) e ad cap (EVW r2 W z2).m
      have SEND:Hid ((false,(n:Int))≠fr/\lP mat (s.held b) (false,(n:Int)) e=true->∀W,Gr wr W->Calls prog 73 #[.pointer (some ⟨T.TB,0,none⟩),.int .i64 b,.int .i64 n,.agg #[.slice ad e.length cap,.int .i64 0,.int .i64 0,.slice none 0 0]] W fun x w'=>x=.returned (.tuple #[])/\Ho T r' w1 Xs cls' (jV (fun x y=>(qs x y).map Mm.ms) b (Ay (s.held b) fr e) (NB.take (q+1))) w'):=fun hyes W g=>by
       refine(sX (HO.gr g) hmem.2 ⟨.ev e,ad,cap⟩ (m0:=.slice ad e.length cap) (m1:=.int .i64 0) (m2:=.int .i64 0) (m3:=.slice none 0 0) rfl (fun r2 qs' _ z=>EVW r2 W z) (by rw[LEN.out,aB];omega)).mono ?_;rintro x w' ⟨h1,h2⟩;refine⟨h1,h2.cong fun x y=>?_⟩;rw[STEP.out x y];by_cases hxy:x=b/\y=n
       ·rw[if_pos hxy,if_pos hxy,hxy.2];congr 1;exact(if_pos hyes).symm
       ·rw[if_neg hxy,if_neg hxy]
      clear EVW;by_cases hf1:fr.1=true
      ·rw[hf1] at b0;clear hf1;go_wp2_with fail;refine(AK _ GX.out).mono ?_;cases hask:lP mat (s.held b) (false,(n:Int)) e with
       |false=>rintro x w3 ⟨rfl,g3⟩;have Z2:=hZ (SKIP (fun h=>by rw[hask] at h;cases h.2) w3 (Gr.call GX.out g3));clear SKIP AK SEND g3 b0 b1 cq;go_wp2_with fail;exact⟨⟨q+1,hlt,by simp,Z2⟩,gD _ _ hlt⟩
       |true=>rintro x w3 ⟨rfl,g3⟩;have SN:=hZ (SEND ⟨hA,hask⟩ w3 (Gr.call GX.out g3));clear SKIP AK SEND g3 b0 b1 cq;go_wp2_with fail;refine SN.mono ?_;rintro x w4 ⟨rfl,h4⟩;have Z2:=hZ h4;clear SN h4;go_wp2_with fail;exact⟨⟨q+1,hlt,by simp,Z2⟩,gD _ _ hlt⟩
      ·(replace hf1:fr.1=false:=by simpa using hf1);rw[hf1] at b0;have hne:((n:Int)==fr.2)=false:=by have:(n:Int)≠fr.2:=fun h=>hA (by rw[h,<-hf1]);simpa using this
       clear hf1;go_wp2_with fail;refine(AK _ GX.out).mono ?_;cases hask:lP mat (s.held b) (false,(n:Int)) e with
       |false=>rintro x w3 ⟨rfl,g3⟩;have Z2:=hZ (SKIP (fun h=>by rw[hask] at h;cases h.2) w3 (Gr.call GX.out g3));clear SKIP AK SEND g3 b0 b1 cq;go_wp2_with fail;exact⟨⟨q+1,hlt,by simp,Z2⟩,gD _ _ hlt⟩
       |true=>rintro x w3 ⟨rfl,g3⟩;have SN:=hZ (SEND ⟨hA,hask⟩ w3 (Gr.call GX.out g3));clear SKIP AK SEND g3 b0 b1 cq;go_wp2_with fail;refine SN.mono ?_;rintro x w4 ⟨rfl,h4⟩;have Z2:=hZ h4;clear SN h4;go_wp2_with fail;exact⟨⟨q+1,hlt,by simp,Z2⟩,gD _ _ hlt⟩
    ·(have hqe:q=NB.length:=by omega);subst hqe;rw[bB] at HO;go_wp2_with fail;refine bodyPost_end (v:=.tuple #[]) (by simp[results,results51,go_sem]) rfl ⟨rfl,?_⟩;obtain⟨r2,qs',z1,z2,z3⟩:=HO.out;exact⟨r2,cls',⟨Xs,qs',z1,VC qs' z3⟩,DONE.out,F3.trans z2⟩
  ·have hcv:(e0.key,e0.val)∈cls.map cv:=M1.mem (mem_left he0).1;obtain⟨c,hc,hce⟩:=aC.1 hcv;(have hk:e0.key=.int .i64 c.num:=by injection hce with h1 h2;exact h1.symm);(have hv':e0.val=.pointer (some ⟨c.blk,0,none⟩):=by injection hce with h1 h2;exact h2.symm);rw[hk,hv'] at hnx hen;obtain⟨m1,c1,m2,rfl,hn1,hb1⟩:=V1.at_ hc;(have hns:c1.num∉dn:=fun hn=>by have:=(D1 e0 (mem_left he0).1).2 ⟨c1.num,hn,by rw[hn1];exact hk⟩;rw[(mem_left he0).2] at this;cases this);have hapart:∀x,x∈m1\/x∈m2->x.num≠c1.num:=fun x hx=>T1.apartC hx;(have hinj:∀e2∈es.toList,e2.key=.int .i64 c1.num->e2=e0:=fun e2 he2 h2=>by have hd:=M1.nod;rw[<-M1.ent,bV] at hd;exact vD hd he2 (mem_left he0).1 (by show e2.key=e0.key;rw[h2,hk,hn1]));have DN2:=hZ (D1.push M1.bnd (mem_left he0).1 (by rw[hn1];exact hk) hinj);have TI:=T1.iter N1.1 (Nat.succ_ne_zero _) hoth hsz2 o1 o2 o3;have T2:=hZ TI.1;have IT2:=hZ hit2;have B2:Hid (W2.heap[w.heap.size]?=some (.cells #[.bool fr.1,.int .i64 fr.2] 143 (0,0))):=(hoth _ (by omega)).trans B1.out;have F2:Hid (Fr r r' w W2):=⟨o1.trans F1.os,o2.trans F1.tape,o3.trans F1.output,by rw[hsz2];exact F1.size,fun k hk2 hr=>(hoth k (by omega)).trans (F1.keep k hk2 hr),F1.same⟩;have M2:Hid (Mp prog 3 W2 T.CB (cls.map cv) es clock):=M1.kept (hoth _ (fun h=>by have:=T1.k.cm;rw[h,N1.1] at this;cases this));have hW2:w.heap.size+2<=W2.heap.size:=fZ IT2.out;have LS:=V1.lost HL.out c1 (aE.2 (Or.inr bC));have HLS:=hZ LS;have HNS:=hZ hns;have HAP:Hid (∀x,x∈m1\/x∈m2->x.num≠c1.num):=hapart;rw[<-hn1,<-hb1] at hnx hen;have SHR:=hZ (left_shrinks es seen e0 he0);clear hcv hce hk hv' hc hn1 hb1 hns hapart hinj TI hit2 hoth hsz2 o1 o2 o3 he0 LS M1 T1 F1 B1 IT D1;have END:Hid (∀(c2:Cl)(r2:Nat->Rl)(w':World),Tm T r2 w' Xs qs (m1++c2::m2)->Fr r' r2 W2 w'->Vs cls (m1++c2::m2) (c1.num::dn) (s.held b) fr e->w'.heap[T.CB]?=W2.heap[T.CB]? ->(∃(seen:Array Nat)(dn:List Int)(r':Nat->Rl)(cls':List Cl),Hid (w'.heap[w.heap.size+1]?=some (.mapIter (some T.CB) clock seen clock))/\Hid (w'.heap[w.heap.size]?=some (.cells #[.bool fr.1,.int .i64 fr.2] 143 (0,0)))/\Hid (Tm T r' w' Xs qs cls')/\Hid (Fr r r' w w')/\Hid (r' (w.heap.size+1)=.no/\r' w.heap.size=.no) /\Hid (Mp prog 3 w' T.CB (cls.map cv) es clock)/\Hid (Vs cls cls' dn (s.held b) fr e)/\Hid (Dn es seen dn))/\(leftOf es (w'.iterSeen (w.heap.size+1))).size<(leftOf es (wr.iterSeen (w.heap.size+1))).size):=by intro c2 r2 w' t2 f2 v2 m2';have hi:w'.heap[w.heap.size+1]?=some (.mapIter (some T.CB) clock (seen.push e0.born) clock):=(f2.keep _ (by omega) (Or.inl N1.1)).trans IT2.out;refine⟨⟨_,_,r2,_,hi,(f2.keep _ (by omega) (Or.inl N1.2)).trans B2.out,t2,F2.trans f2,⟨(f2.same _ (by omega)).trans N1.1,(f2.same _ (by omega)).trans N1.2⟩,M2.kept m2',v2,DN2.out⟩,?_⟩;rw[HMS.out];unfold World.iterSeen;rw[hi];exact SHR.out
   (have b0:W2.cell? ⟨w.heap.size,0,none⟩=some (.bool fr.1):=by rw[cZ B2.out];rfl);have b1:W2.cell? ⟨w.heap.size,1,none⟩=some (.int .i64 fr.2):=by rw[cZ B2.out];rfl
   (have hlt2:w.heap.size<W2.heap.size:=by omega);have GX:=hZ ((Gr.refl W2).alloc (.cells #[.bool true,.int .i64 c1.num] 143));have hCB:T.CB<W2.heap.size:=M2.lt;by_cases hA:(true,c1.num)=fr
   ·have SK:=hZ (END c1 r' _ (T2.gr GX.out) (Fr.gr GX.out) (V1.skip HNS.out HAP.out (fun h=>h.1 hA)) (GX.block _ hCB));(obtain⟨h1,h2⟩:fr.1=true/\fr.2=c1.num:=by rw[<-hA];exact⟨rfl,rfl⟩);clear END;rw[h1] at b0;rw[h2] at b1;go_wp2_with fail;exact SK.out
   ·(have EV:Hid (∀W,Fr r' r' W2 W->EvR r' W ad e):=fun W k=>by have k2:=F2.trans k;exact HE.keep k2.size (fun i hi hr=>k2.keep i hi (Or.inr hr)) k2.same);have AK:Hid (∀W,Gr W2 W->Calls prog 83 #[.pointer (some ⟨T.TB,0,none⟩),.int .i64 b,.agg #[.bool true,.int .i64 c1.num],.slice ad e.length cap] W fun x w'=>x=.returned (.bool (lP mat (s.held b) (true,c1.num) e))/\Gr W w'):=fun W g=>
     Lh (T2.gr g) hb (HV.held b hb) (aA (vR T2.out HV.out hb) (HM.h b hb)) (true,c1.num) e ad cap (EV W (Fr.gr g)).m
    have HR:Hid (∀W,Gr W2 W->Calls prog 84 #[.pointer (some ⟨c1.blk,0,none⟩),.slice ad e.length cap] W fun x w'=>x=.returned (.tuple #[])/\(∃r2 c2,(Tm T r2 w' Xs qs (m1++c2::m2)/\Fr r' r2 W w')/\HrC c1 c2 e)/\w'.heap[T.CB]?=W.heap[T.CB]?):=fun W g=>
     aAA T r' W Xs qs m1 m2 c1 e ad cap (T2.gr g) (EV W (Fr.gr g)) ⟨HLS.1,by have:=HLS.2;omega⟩
    have FIN:Hid (∀W w',Gr W2 W->Gr W w'->∀q:Bool,lP mat (s.held b) (true,c1.num) e=q->q=false->(Tm T r' w' Xs qs (m1++c1::m2)/\Fr r' r' W2 w'/\Vs cls (m1++c1::m2) (c1.num::dn) (s.held b) fr e/\w'.heap[T.CB]?=W2.heap[T.CB]?)):=fun W w' g g' q hq hq0=>
     ⟨T2.gr (Gr.call g g'),Fr.gr (Gr.call g g'),V1.skip HNS.out HAP.out (fun h=>by rw[hq,hq0] at h;cases h.2),(Gr.call g g').block _ hCB⟩
    (have TAKE:Hid (∀W w',Gr W2 W->lP mat (s.held b) (true,c1.num) e=true->(∃r2 c2,(Tm T r2 w' Xs qs (m1++c2::m2)/\Fr r' r2 W w')/\HrC c1 c2 e)/\w'.heap[T.CB]?=W.heap[T.CB]? ->∃c2 r2,Tm T r2 w' Xs qs (m1++c2::m2)/\Fr r' r2 W2 w'/\Vs cls (m1++c2::m2) (c1.num::dn) (s.held b) fr e/\w'.heap[T.CB]?=W2.heap[T.CB]?):=by rintro W w' g ha ⟨⟨r2,c2,⟨t,f⟩,hh⟩,hcb⟩;refine⟨c2,r2,t,(Fr.gr g).trans f,V1.turn HNS.out HAP.out ?_ hh.blk,hcb.trans (g.block _ hCB)⟩;rw[Wk hh];unfold jA;rw[if_pos ⟨hA,ha⟩]);clear EV;by_cases hf1:fr.1=false
    ·rw[hf1] at b0;clear hf1;go_wp2_with fail;refine(AK _ GX.out).mono ?_;cases hask:lP mat (s.held b) (true,c1.num) e with
     |false=>rintro x w3 ⟨rfl,g3⟩;have Z1:=FIN _ w3 GX.out g3 _ hask rfl;have Z2:=hZ (END c1 r' w3 Z1.1 Z1.2.1 Z1.2.2.1 Z1.2.2.2);clear END FIN TAKE AK HR Z1 g3 b0 b1;go_wp2_with fail;exact Z2.out
     |true=>rintro x w3 ⟨rfl,g3⟩;have HR3:=hZ (HR w3 (Gr.call GX.out g3));have TK3:=hZ (fun w'=>TAKE w3 w' (Gr.call GX.out g3) hask);clear FIN TAKE AK HR g3 b0 b1;go_wp2_with fail;refine HR3.mono ?_;rintro x w4 ⟨rfl,h4⟩;obtain⟨c2,r2,z1,z2,z3,z4⟩:=TK3 w4 h4;have Z2:=hZ (END c2 r2 w4 z1 z2 z3 z4);clear END TK3 HR3 h4 z1 z2 z3 z4;go_wp2_with fail;exact Z2.out
    ·(replace hf1:fr.1=true:=by simpa using hf1);rw[hf1] at b0;have hne:(c1.num==fr.2)=false:=by have:c1.num≠fr.2:=fun h=>hA (by rw[h,<-hf1]);simpa using this
     clear hf1;go_wp2_with fail;refine(AK _ GX.out).mono ?_;cases hask:lP mat (s.held b) (true,c1.num) e with
     |false=>rintro x w3 ⟨rfl,g3⟩;have Z1:=FIN _ w3 GX.out g3 _ hask rfl;have Z2:=hZ (END c1 r' w3 Z1.1 Z1.2.1 Z1.2.2.1 Z1.2.2.2);clear END FIN TAKE AK HR Z1 g3 b0 b1;go_wp2_with fail;exact Z2.out
     |true=>rintro x w3 ⟨rfl,g3⟩;have HR3:=hZ (HR w3 (Gr.call GX.out g3));have TK3:=hZ (fun w'=>TAKE w3 w' (Gr.call GX.out g3) hask);clear FIN TAKE AK HR g3 b0 b1;go_wp2_with fail;refine HR3.mono ?_;rintro x w4 ⟨rfl,h4⟩;obtain⟨c2,r2,z1,z2,z3,z4⟩:=TK3 w4 h4;have Z2:=hZ (END c2 r2 w4 z1 z2 z3 z4);clear END TK3 HR3 h4 z1 z2 z3 z4;go_wp2_with fail;exact Z2.out
end Go.Proofs.YtecnfgikbmcgoabGreat
