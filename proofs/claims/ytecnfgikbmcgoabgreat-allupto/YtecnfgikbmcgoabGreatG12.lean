import Derived.Test.YtecnfgikbmcgoabGreatG11
set_option maxHeartbeats 8000000
set_option maxRecDepth 100000
namespace Go.Proofs.YtecnfgikbmcgoabGreat
open Go.Proofs.Tryz
open Go.RowKit
open Go.Maps (Keyed)
open Go.ChangeMaps (setBlock)
variable {i j:Nat}{out:Nat->List (Ms (List Wnt) (List Atr))}{w':World}
abbrev Qb:=Nat->Nat->List (Ms (List Wnt) (List Atr))
def Ho(T:Tc)(r:Nat->Rl)(w0:World)(Xs:Nat->List Hm)(cls:List Cl)(base:Qb)(wr:World):Prop:=∃r' qs',Tm T r' wr Xs qs' cls/\Fr r r' w0 wr/\∀x y,(qs' x y).map Mm.ms=base x y
section
variable {T:Tc}{r:Nat->Rl}{w0 wr:World}{Xs:Nat->List Hm}{cls:List Cl}{base:Qb}
theorem Ho.cong{base':Qb}(h:Ho T r w0 Xs cls base wr)(e:∀x y,base x y=base' x y):Ho T r w0 Xs cls base' wr:=by obtain⟨r',qs',h1,h2,h3⟩:=h;exact⟨r',qs',h1,h2,fun x y=>(h3 x y).trans (e x y)⟩
theorem Ho.gr(h:Ho T r w0 Xs cls base wr)(g:Gr wr w'):Ho T r w0 Xs cls base w':=by obtain⟨r',qs',h1,h2,h3⟩:=h;exact⟨r',qs',h1.gr g,h2.trans (Fr.gr g),h3⟩
theorem Ho.blk(h:Ho T r w0 Xs cls base wr){k:Nat}{o:Obj}(hk:w0.heap[k]?=some o)(hr:r k=.no\/r k=.fx):wr.heap[k]?=some o:=by obtain⟨_,_,_,h2,_⟩:=h;exact(h2.keep k (fZ hk) hr).trans hk
theorem Ho.from_{w1:World}{r1:Nat->Rl}(h:Ho T r1 w1 Xs cls base wr)(k:Fr r r1 w0 w1):Ho T r w0 Xs cls base wr:=by obtain⟨r',qs',h1,h2,h3⟩:=h;exact⟨r',qs',h1,k.trans h2,h3⟩
theorem Fr.owns{r r':Nat->Rl}{w:World}{bs n size:Nat}{e:TypeId}{v:Value}{xs:List Value}(h:Fr r r' w w')(o:w.ownsRow bs e size v n xs)(hr:∀k,bs<=k->r k=.no):w'.ownsRow bs e size v n xs:=by
 refine⟨o.1,?_⟩;rcases o.2 with h2|⟨g,cap,cur,hv,hb,hh,rr⟩
 ·exact Or.inl h2
 ·exact Or.inr ⟨g,cap,cur,hv,hb,(h.keep g (fZ hh) (Or.inl (hr g hb))).trans hh,rr⟩
theorem sX(h:Ho T r w0 Xs cls base wr){a b:Nat}(hab:T.adj a b=true)(x:Mm){m0 m1 m2 m3:Value}(hx:iE x=[m0,m1,m2,m3])(hok:∀r' qs',Tm T r' wr Xs qs' cls->Fr r r' w0 wr->qY r' wr x)(hn:(base a b).length<1099511627776):Calls prog 73 #[.pointer (some ⟨T.TB,0,none⟩),.int .i64 a,.int .i64 b,.agg #[m0,m1,m2,m3]] wr fun e w'=>e=.returned (.tuple #[])/\Ho T r w0 Xs cls (fun p q=>base p q++if p=a/\q=b then[x.ms] else[]) w':=by
 obtain⟨r',qs',h1,h2,h3⟩:=h;have hl:(qs' a b).length<1099511627776:=by rw[<-aB (f:=Mm.ms),h3];exact hn
 refine(Rn T r' wr Xs qs' cls a b x m0 m1 m2 m3 hx h1 hab (hok r' qs' h1 h2) hl).mono ?_;rintro e w' ⟨he,r2,k1,k2⟩;refine⟨he,r2,_,k1,h2.trans k2,fun p q=>?_⟩;unfold uN;by_cases hpq:p=a/\q=b
 ·show _=base p q++(if p=a/\q=b then[x.ms] else[]);rw[if_pos hpq,if_pos hpq,aS,h3];rfl
 ·show _=base p q++(if p=a/\q=b then[x.ms] else[]);rw[if_neg hpq,if_neg hpq,h3,aZ]
theorem Cm(h:Ho T r w0 Xs cls base wr){b:Nat}(hb:b<T.nb)(n:Int)(g:Hw)(a':Option Addr)(c':Nat)(hg:FiM wr a' g.f):Calls prog 72 #[.pointer (some ⟨T.TB,0,none⟩),.int .i64 b,.int .i64 n,.agg (hv g a' c')] wr fun e w'=>e=.returned (.bool (isT cov ((Xs b).map (·.1)) n g))/\Gr wr w':=by obtain⟨r',qs',h1,h2,h3⟩:=h;obtain⟨es,clock,hp⟩:=h1.hp hb;exact zU T.TB T.HB 0 T.nb T.hcap b (T.MB b) n g a' c' (Xs b) es clock T.ml wr h1.b.c0 (by rw[cE];exact h1.b.hb b hb) hb h1.tlt h1.hlt hp hg h1.b.ml
theorem oR(h:Ho T r w0 Xs cls base wr){b:Nat}(hb:b<T.nb)(n:Int)(g:Hw)(a':Option Addr)(c':Nat)(hg:FiM wr a' g.f)(hX:(Xs b).length<=1048576):Calls prog 74 #[.pointer (some ⟨T.TB,0,none⟩),.int .i64 b,.int .i64 n,.agg (hv g a' c')] wr fun e w'=>∃v L,e=.returned v/\w'.ownsRow wr.heap.size 124 4 v L.length (hH L)/\L.Pairwise (fun x y=>klt x.1.key y.1.key=true)/\(∀x,x∈L↔x∈Xs b/\woP (Xs b) n g x=true)/\Gr wr w':=by obtain⟨r',qs',h1,h2,h3⟩:=h;obtain⟨es,clock,hp⟩:=h1.hp hb;exact wZ T.TB T.HB 0 T.nb T.hcap b (T.MB b) n g a' c' (Xs b) es clock T.ml wr h1.b.c0 (by rw[cE];exact h1.b.hb b hb) hb h1.tlt h1.hlt hX hp hg h1.b.ml
theorem nD(h:Ho T r w0 Xs cls base wr){b:Nat}(hb:b<T.nb):Calls prog 71 #[.pointer (some ⟨T.TB,0,none⟩),.int .i64 b] wr fun e w'=>∃v,e=.returned v/\w'.ownsRow wr.heap.size 3 1 v (nbs T.adj T.nb b T.nb).length (kT (nbs T.adj T.nb b T.nb))/\Gr wr w':=by obtain⟨r',qs',h1,h2,h3⟩:=h;obtain⟨m,es,clock,hm,hl,_⟩:=h1.l.lk;exact zG T.TB T.LB T.HB 0 T.nb T.hcap b T.adj m es clock wr h1.b.nb8 hb h1.b.c0 h1.b.c2 h1.tlt hm hl
end
theorem kV{adj:Nat->Nat->Bool}{nb b k n:Nat}:n∈nbs adj nb b k↔n<k/\n<nb/\adj b n=true:=by simp[nbs]
theorem Dj(adj:Nat->Nat->Bool)(nb b k:Nat):(nbs adj nb b k).Nodup:=(List.nodup_range).filter _
def lG(l:List Nat)(i:Nat):Nat:=l.getD i 0
theorem zH{l:List Nat}(h:i<l.length):l.take (i+1)=l.take i++[lG l i]:=by rw[aW h];simp[lG,h]
theorem uT{l:List Nat}(h:i<l.length):lG l i∈l:=by unfold lG;exact jZ h 0
theorem Lr{l:List Nat}(hn:l.Nodup)(h:i<l.length):lG l i∉l.take i:=by have h1:(l.take (i+1)).Nodup:=hn.sublist (List.take_sublist _ _);rw[zH h,dF] at h1;exact fun hm=>h1.2.2 _ hm _ (by simp) rfl
def jV(q:Qb)(b:Nat)(out:Nat->List (Ms (List Wnt) (List Atr)))(l:List Nat):Qb:=fun x y=>q x y++if x=b/\y∈l then out y else[]
theorem zB(q:Qb)(b:Nat)(out:Nat->List (Ms (List Wnt) (List Atr)))(x y:Nat):jV q b out [] x y=q x y:=by simp[jV]
theorem vW{q:Qb}{b:Nat}{l:List Nat}(hn:l.Nodup)(hi:i<l.length)(x y:Nat):jV q b out (l.take (i+1)) x y=jV q b out (l.take i) x y++if x=b/\y=lG l i then out y else[]:=by
 have h1:=Lr hn hi;rw[zH hi];unfold jV;rw[aU];congr 1;by_cases hx:x=b
 ·subst hx;by_cases hy:y=lG l i
  ·subst hy;simp[h1]
  ·simp[hy]
 ·simp[hx]
theorem zC{q:Qb}{b:Nat}{l:List Nat}(hn:l.Nodup)(hi:i<l.length):jV q b out (l.take i) b (lG l i)=q b (lG l i):=by unfold jV;rw[if_neg (fun h=>Lr hn hi h.2),aZ]
def hat(L:List Hm)(j:Nat):Hm:=L.getD j (⟨(0,0),[],0⟩,none,0)
theorem nY{L:List Hm}(h:j<L.length):hat L j∈L:=by unfold hat;exact jZ h _
theorem Gu{L:List Hm}(h:j<L.length):L.take (j+1)=L.take j++[hat L j]:=by rw[aW h];simp[hat,h]
theorem qJ:∀(L:List Hm)(j:Nat),j<L.length->(hH L)[j*4]?=some (.int .i64 (hat L j).1.key.1)/\(hH L)[j*4+1]?=some (.int .i64 (hat L j).1.key.2)/\(hH L)[j*4+1+1]?=some (.slice (hat L j).2.1 (hat L j).1.f.length (hat L j).2.2)/\(hH L)[j*4+1+1+1]?=some (.int .i64 (hat L j).1.fr)
 |[],j,h=>by simp at h
 |x::l,0,_=>by simp[hH,lA,hat]
 |x::l,j+1,h=>by
  have ih:=qJ l j (by simpa using h);have e:∀k,(hH (x::l))[(j+1)*4+k]?=(hH l)[j*4+k]?:=fun k=>by
   (have:(j+1)*4+k=(j*4+k)+4:=by omega);rw[this];simp[hH,lA,List.getElem?_cons_succ]
  have hh:hat (x::l) (j+1)=hat l j:=by simp[hat]
  rw[hh];exact⟨(e 0).trans ih.1,(e 1).trans ih.2.1,(e 2).trans ih.2.2.1,(e 3).trans ih.2.2.2⟩
def pN(l:List Hw)(h:Hw)(n:Nat):List (Ms (List Wnt) (List Atr)):=if(n:Int)=h.fr then[] else(if isT cov l n h then[.sub h.key h.f] else[])++qM (woT cov l n h)
theorem Fb{L:List Hm}(h:j<L.length):((L.take (j+1)).map fun x=>(Ms.uns x.1.key:Ms (List Wnt) (List Atr)))=((L.take j).map fun x=>.uns x.1.key)++[.uns (hat L j).1.key]:=by rw[Gu h,aS];rfl
theorem Tt(T:Tc)(r:Nat->Rl)(w:World)(Xs:Nat->List Hm)(qs:Nat->Nat->List Mm)(cls:List Cl)(b:Nat)(h:Hw)(a':Option Addr)(c':Nat)(l:List Hw)(hT:Tm T r w Xs qs cls)(hb:b<T.nb)(hf:FiR r w a' h.f)(hk:I64 h.key.1/\I64 h.key.2)(hs:Srt l)(hl:∀g,g∈l↔∃x∈Xs b,x.1=g)(hnew:∀x∈Xs b,x.1.key≠h.key)(hX:(Xs b).length<=1048576)(hq:∀n,(qs b n).length<549755813888):Calls prog 42 #[.pointer (some ⟨T.TB,0,none⟩),.int .i64 b,.agg (hv h a' c')] w fun e w'=>e=.returned (.tuple #[])/\∃r' qs',Tm T r' w' (fun c=>if c=b then Xs b++[(h,a',c')] else Xs c) qs' cls/\Fr r r' w w'/\∀x y,(qs' x y).map Mm.ms=jV (fun x y=>(qs x y).map Mm.ms) b (pN l h) (nbs T.adj T.nb b T.nb) x y:=by
 unfold hv;have ga:Gr w (w.alloc (.cells #[.int .i64 h.key.1,.int .i64 h.key.2,.slice a' h.f.length c',.int .i64 h.fr] 124)):=(Gr.refl w).alloc _;have HB:=fY w (.cells #[.int .i64 h.key.1,.int .i64 h.key.2,.slice a' h.f.length c',.int .i64 h.fr] 124);have H0:Ho T r (w.alloc (.cells #[.int .i64 h.key.1,.int .i64 h.key.2,.slice a' h.f.length c',.int .i64 h.fr] 124)) Xs cls (fun x y=>(qs x y).map Mm.ms) (w.alloc (.cells #[.int .i64 h.key.1,.int .i64 h.key.2,.slice a' h.f.length c',.int .i64 h.fr] 124)):=⟨r,qs,hT.gr ga,Fr.refl _ _,fun _ _=>rfl⟩;have HTM:=hZ hT;have HNB:=hT.b.nb8;have HF:=hZ hf;have HK:=hZ hk;have HS:=hZ hs;have HL:=hZ hl;have HNEW:=hZ hnew;have HQ:=hZ hq;have NBS:=hZ (nD H0 hb);have GA:=hZ ga;have HHB:=hZ HB;have NMEM:Hid (∀n,n∈nbs T.adj T.nb b T.nb->n<T.nb/\T.adj b n=true):=fun n hn=>(kV.1 hn).2;have NND:=hZ (Dj T.adj T.nb b T.nb);have NLE:=wA T.adj T.nb b T.nb;clear hT hf hk hs hl hnew hq ga HB H0;generalize nbs T.adj T.nb b T.nb=NB at *;go_enter func42,ntmps42;go_wp2_with fail;refine NBS.mono ?_;rintro e w1 ⟨v,rfl,ho,g1⟩;obtain⟨va,vk,rfl,hva⟩:=gH ho;have G1:=hZ (Gr.call GA.out g1);have B1:=hZ (gK g1 HHB.out);have O1:=hZ ho;have H1:Hid (Ho T r w1 Xs cls (jV (fun x y=>(qs x y).map Mm.ms) b (pN l h) (NB.take 0)) w1):=⟨r,qs,HTM.gr G1.out,Fr.refl _ _,fun x y=>by rw[bY,zB]⟩;have NO:Hid (∀k,w.heap.size<=k->r k=.no):=HTM.b.top;have HVA:=hZ hva;clear NBS HHB GA ho g1 hva;go_wp2_with fail;go_loopw [14] (fun i wr=>∃q:Nat,q<=NB.length/\i=.int .i64 q/\Hid (Ho T r w1 Xs cls (jV (fun x y=>(qs x y).map Mm.ms) b (pN l h) (NB.take q)) wr)) (fun i _=>NB.length-(intOf i).toNat);case atStart=>exact⟨0,zZ,rfl,H1⟩
 case round=>
  obtain⟨q,hq,rfl,HO⟩:=hrel;clear H1;have hB:=HO.blk B1.out (Or.inl (NO _ lZ));have b0:wr.cell? ⟨w.heap.size,0,none⟩=some (.int .i64 h.key.1):=by rw[cZ hB];rfl
  have b1:wr.cell? ⟨w.heap.size,1,none⟩=some (.int .i64 h.key.2):=by rw[cZ hB];rfl
  have b2:wr.cell? ⟨w.heap.size,2,none⟩=some (.slice a' h.f.length c'):=by rw[cZ hB];rfl
  have b3:wr.cell? ⟨w.heap.size,3,none⟩=some (.int .i64 h.fr):=by rw[cZ hB];rfl
  have FIW:Hid (∀r' w',Fr r r' w1 w'->FiR r' w' a' h.f):=fun r' w' k=>by have k2:=(Fr.gr (r:=r) G1.out).trans k;exact HF.keep k2.size (fun i hi hr=>k2.keep i hi (Or.inr hr)) k2.same
  have HBB:=hZ hB;clear hB;by_cases hlt:q<NB.length
  ·obtain⟨vb,rfl⟩:=HVA (by omega);have OW:Hid (wr.ownsRow (w.alloc (.cells #[.int .i64 h.key.1,.int .i64 h.key.2,.slice a' h.f.length c',.int .i64 h.fr] 124)).heap.size 3 1 (.slice (some ⟨vb,0,none⟩) NB.length vk) NB.length (kT NB)):=by obtain⟨r',qs',z1,z2,z3⟩:=HO.out;exact z2.owns O1.out (fun k hk=>NO k (by rw[gX] at hk;omega))
   (have cq:wr.cell? ⟨vb,q,none⟩=some (.int .i64 (lG NB q)):=by rw[aH OW.out q (by omega)];simp[kT,lG,hlt]);have hmem:=NMEM _ (uT hlt);have STEP:=hZ (vW (q:=fun x y=>(qs x y).map Mm.ms) (b:=b) (out:=pN l h) NND.out hlt);have LEN:=hZ (zC (q:=fun x y=>(qs x y).map Mm.ms) (b:=b) (out:=pN l h) NND.out hlt);have hlq:=HQ (lG NB q);clear OW;generalize lG NB q=n at *;by_cases hfr:(n:Int)=h.fr
   ·(have hfr':((n:Int)==h.fr)=true:=by simpa using hfr);have H2:Hid (Ho T r w1 Xs cls (jV (fun x y=>(qs x y).map Mm.ms) b (pN l h) (NB.take (q+1))) wr):=HO.cong fun x y=>by
     rw[STEP.out x y];have:(if x=b/\y=n then pN l h y else[])=[]:=by
      split
      ·rename_i hh;rw[hh.2];exact if_pos hfr
      ·rfl
     rw[this,aZ]
    clear HO;rw[hfr] at cq;go_wp2_with fail;exact⟨⟨q+1,hlt,by simp,H2⟩,gD _ _ hlt⟩
   ·(have hfr':((n:Int)==h.fr)=false:=by simpa using hfr);have FW:Hid (FiM wr a' h.f):=by obtain⟨r',qs',z1,z2,z3⟩:=HO.out;exact(FIW r' wr z2).m
    have IT:=hZ (Cm HO.out hb n h a' c' FW.out);have HW1:Hid (∀w2,Gr wr w2->w2.heap[w.heap.size]?=some (.cells #[.int .i64 h.key.1,.int .i64 h.key.2,.slice a' h.f.length c',.int .i64 h.fr] 124 (0,0))):=fun w2 g=>gK g HBB.out;have OUT:Hid (pN l h n=(if isT cov l n h then[.sub h.key h.f] else[])++qM (woT cov l n h)):=if_neg hfr;have ISC:isT cov ((Xs b).map (·.1)) n h=isT cov l n h:=vC (fun g=>by rw[HL.out g,aC]) n h;unfold hv at IT;go_wp2_with fail;refine IT.mono ?_;rw[ISC];clear IT ISC;cases hit:isT cov l n h with
    |true=>
     rintro e w2 ⟨rfl,g2⟩;have H2:=hZ (HO.gr g2);have hB2:=HW1 w2 g2;(have b0':w2.cell? ⟨w.heap.size,0,none⟩=some (.int .i64 h.key.1):=by rw[cZ hB2];rfl);(have b1':w2.cell? ⟨w.heap.size,1,none⟩=some (.int .i64 h.key.2):=by rw[cZ hB2];rfl);(have b2':w2.cell? ⟨w.heap.size,2,none⟩=some (.slice a' h.f.length c'):=by rw[cZ hB2];rfl);(have b3':w2.cell? ⟨w.heap.size,3,none⟩=some (.int .i64 h.fr):=by rw[cZ hB2];rfl);have SND:=hZ (sX H2.out hmem.2 ⟨.sub h.key h.f,a',c'⟩ (m0:=.slice none 0 0) (m1:=.int .i64 h.key.1) (m2:=.int .i64 h.key.2) (m3:=.slice a' h.f.length c') rfl (fun r' qs' _ z=>⟨HK.out,FIW r' w2 z⟩) (by rw[LEN.out,aB];omega));clear hB2 g2 b0 b1 b2 b3 HO;go_wp2_with fail;refine SND.mono ?_;rintro e w3 ⟨rfl,H3⟩;have H3:=hZ H3;(have OUT2:Hid (pN l h n=[.sub h.key h.f]++qM (woT cov l n h)):=by have:=OUT.out;rw[hit] at this;exact this);clear SND H2 OUT b0' b1' b2' b3';have OUT:=OUT2;clear OUT2;(have FW3:Hid (FiM w3 a' h.f):=by obtain⟨r',qs',z1,z2,z3⟩:=H3.out;exact(FIW r' w3 z2).m);have hB3:=H3.blk B1.out (Or.inl (NO _ lZ));(have b0':w3.cell? ⟨w.heap.size,0,none⟩=some (.int .i64 h.key.1):=by rw[cZ hB3];rfl);(have b1':w3.cell? ⟨w.heap.size,1,none⟩=some (.int .i64 h.key.2):=by rw[cZ hB3];rfl);(have b2':w3.cell? ⟨w.heap.size,2,none⟩=some (.slice a' h.f.length c'):=by rw[cZ hB3];rfl);(have b3':w3.cell? ⟨w.heap.size,3,none⟩=some (.int .i64 h.fr):=by rw[cZ hB3];rfl);have TW:=hZ (oR H3.out hb n h a' c' FW3.out hX);unfold hv at TW;clear hB3 HBB FW cq;go_wp2_with fail;refine TW.mono ?_;rintro e w5 ⟨v5,L,rfl,ho5,hL1,hL2,g5⟩;obtain⟨r3,q3,z1,z2,z3⟩:=H3.out;obtain⟨xa,xk,rfl,hxa⟩:=gH ho5;have WOT:=hZ (Ix HS.out HL.out hL1 hL2);have LM:Hid (∀x∈L,x∈Xs b):=fun x hx=>((hL2 x).1 hx).1;have LLE:L.length<=1048576:=by
      (have hnd:(L.map fun x=>x.1.key).Pairwise fun x y=>x≠y:=by rw[cB];exact hL1.imp (fun h=>rW h));have:=nC (L.map fun x=>x.1.key) ((Xs b).map fun x=>x.1.key) hnd (fun k hk=>by obtain⟨x,hx,rfl⟩:=aC.1 hk;exact aC.2 ⟨x,((hL2 x).1 hx).1,rfl⟩);simp only[aB] at this;omega
     have H5:Hid (Ho T r3 w5 Xs cls (fun p y=>(fun p y=>jV (fun x y=>(qs x y).map Mm.ms) b (pN l h) (NB.take q) p y++if p=b/\y=n then[.sub h.key h.f] else[]) p y++if p=b/\y=n then((L.take 0).map fun x=>(Ms.uns x.1.key:Ms (List Wnt) (List Atr))) else[]) w5):=⟨r3,q3,z1.gr g5,Fr.refl _ _,fun x y=>by rw[z3];simp⟩;have F5:=hZ (z2.trans (Fr.gr g5));have O5:=hZ ho5;have N5:Hid (∀k,w3.heap.size<=k->r3 k=.no):=z1.b.top;have HXA:=hZ hxa;clear TW H3 z1 z2 z3 ho5 hL1 hL2 g5 b0' b1' b2' b3' hxa;go_wp2_with fail;go_loopw [42] (fun i w6=>∃j:Nat,j<=L.length/\i=.int .i64 j/\Hid (Ho T r3 w5 Xs cls (fun p y=>(fun p y=>jV (fun x y=>(qs x y).map Mm.ms) b (pN l h) (NB.take q) p y++if p=b/\y=n then[.sub h.key h.f] else[]) p y++if p=b/\y=n then((L.take j).map fun x=>(Ms.uns x.1.key:Ms (List Wnt) (List Atr))) else[]) w6)) (fun i _=>L.length-(intOf i).toNat);case atStart=>exact⟨0,zZ,rfl,H5⟩
     case round=>
      obtain⟨j,hj,rfl,H6⟩:=hrel;clear H5;by_cases hjl:j<L.length
      ·obtain⟨xb,rfl⟩:=HXA (by omega);(have O6:Hid (wr.ownsRow w3.heap.size 124 4 (.slice (some ⟨xb,0,none⟩) L.length xk) L.length (hH L)):=by obtain⟨r',qs',z1,z2,z3⟩:=H6.out;exact z2.owns O5.out N5.out);obtain⟨d0,d1,d2,d3⟩:=qJ L j hjl;rw[<-aH O6.out _ (by omega)] at d0 d1 d2 d3;have hmj:=LM _ (nY hjl);have TK:=hZ (Fb hjl);generalize hat L j=y at *;have HMJ:=hZ hmj;have H7:=hZ (H6.gr ((Gr.refl wr).alloc (.cells #[.int .i64 y.1.key.1,.int .i64 y.1.key.2,.slice y.2.1 y.1.f.length y.2.2,.int .i64 y.1.fr] 124)));have SN6:=hZ (sX H7.out hmem.2 ⟨.uns y.1.key,none,0⟩ (m0:=.slice none 0 0) (m1:=.int .i64 y.1.key.1) (m2:=.int .i64 y.1.key.2) (m3:=.slice none 0 0) rfl (fun r' qs' t _=>(t.h.fi b hb y HMJ.out).2) (by have:=List.length_take_le j L;simp only[aG,LEN.out,aB,and_self,if_true,dQ];(have hf1:([.sub h.key h.f]:List (Ms (List Wnt) (List Atr))).length<=1:=by simp);omega));clear hmj O6 H6;go_wp2_with fail;refine SN6.mono ?_;rintro e w7 ⟨rfl,H8⟩;have H9:Hid (Ho T r3 w5 Xs cls (fun p y=>(fun p y=>jV (fun x y=>(qs x y).map Mm.ms) b (pN l h) (NB.take q) p y++if p=b/\y=n then[.sub h.key h.f] else[]) p y++if p=b/\y=n then((L.take (j+1)).map fun x=>(Ms.uns x.1.key:Ms (List Wnt) (List Atr))) else[]) w7):=H8.cong fun p z=>by
        by_cases hpz:p=b/\z=n
        ·simp only[if_pos hpz];rw[TK.out,aU,aU]
        ·simp only[if_neg hpz,aZ]
       clear SN6 H7 H8 d0 d1 d2 d3;go_wp2_with fail;exact⟨⟨j+1,hjl,by simp,H9⟩,gD _ _ hjl⟩
      ·(have hje:j=L.length:=by omega);subst hje;have H9:Hid (Ho T r w1 Xs cls (jV (fun x y=>(qs x y).map Mm.ms) b (pN l h) (NB.take (q+1))) wr):=(H6.from_ F5.out).cong fun p z=>by
        rw[STEP.out p z];by_cases hpz:p=b/\z=n
        ·simp only[if_pos hpz,bB];rw[hpz.2,OUT.out,aU];congr 2;rw[<-WOT.out];simp[qM]
        ·simp only[if_neg hpz,aZ]
       clear H6;go_wp2_with fail;exact⟨⟨q+1,hlt,by simp,H9⟩,gD _ _ hlt⟩
    |false=>
     rintro e w3 ⟨rfl,g2⟩;(have H3:Hid (Ho T r w1 Xs cls (fun p y=>jV (fun x y=>(qs x y).map Mm.ms) b (pN l h) (NB.take q) p y++if p=b/\y=n then[] else[]) w3):=(HO.gr g2).cong fun x y=>by simp);(have OUT2:Hid (pN l h n=[]++qM (woT cov l n h)):=by have:=OUT.out;rw[hit] at this;exact this);clear OUT HO g2 b0 b1 b2 b3;have OUT:=OUT2;clear OUT2;(have FW3:Hid (FiM w3 a' h.f):=by obtain⟨r',qs',z1,z2,z3⟩:=H3.out;exact(FIW r' w3 z2).m);have hB3:=H3.blk B1.out (Or.inl (NO _ lZ));(have b0':w3.cell? ⟨w.heap.size,0,none⟩=some (.int .i64 h.key.1):=by rw[cZ hB3];rfl);(have b1':w3.cell? ⟨w.heap.size,1,none⟩=some (.int .i64 h.key.2):=by rw[cZ hB3];rfl);(have b2':w3.cell? ⟨w.heap.size,2,none⟩=some (.slice a' h.f.length c'):=by rw[cZ hB3];rfl);(have b3':w3.cell? ⟨w.heap.size,3,none⟩=some (.int .i64 h.fr):=by rw[cZ hB3];rfl);have TW:=hZ (oR H3.out hb n h a' c' FW3.out hX);unfold hv at TW;clear hB3 HBB FW cq;go_wp2_with fail;refine TW.mono ?_;rintro e w5 ⟨v5,L,rfl,ho5,hL1,hL2,g5⟩;obtain⟨r3,q3,z1,z2,z3⟩:=H3.out;obtain⟨xa,xk,rfl,hxa⟩:=gH ho5;have WOT:=hZ (Ix HS.out HL.out hL1 hL2);have LM:Hid (∀x∈L,x∈Xs b):=fun x hx=>((hL2 x).1 hx).1;have LLE:L.length<=1048576:=by
      (have hnd:(L.map fun x=>x.1.key).Pairwise fun x y=>x≠y:=by rw[cB];exact hL1.imp (fun h=>rW h));have:=nC (L.map fun x=>x.1.key) ((Xs b).map fun x=>x.1.key) hnd (fun k hk=>by obtain⟨x,hx,rfl⟩:=aC.1 hk;exact aC.2 ⟨x,((hL2 x).1 hx).1,rfl⟩);simp only[aB] at this;omega
     have H5:Hid (Ho T r3 w5 Xs cls (fun p y=>(fun p y=>jV (fun x y=>(qs x y).map Mm.ms) b (pN l h) (NB.take q) p y++if p=b/\y=n then[] else[]) p y++if p=b/\y=n then((L.take 0).map fun x=>(Ms.uns x.1.key:Ms (List Wnt) (List Atr))) else[]) w5):=⟨r3,q3,z1.gr g5,Fr.refl _ _,fun x y=>by rw[z3];simp⟩;have F5:=hZ (z2.trans (Fr.gr g5));have O5:=hZ ho5;have N5:Hid (∀k,w3.heap.size<=k->r3 k=.no):=z1.b.top;have HXA:=hZ hxa;clear TW H3 z1 z2 z3 ho5 hL1 hL2 g5 b0' b1' b2' b3' hxa;go_wp2_with fail;go_loopw [42] (fun i w6=>∃j:Nat,j<=L.length/\i=.int .i64 j/\Hid (Ho T r3 w5 Xs cls (fun p y=>(fun p y=>jV (fun x y=>(qs x y).map Mm.ms) b (pN l h) (NB.take q) p y++if p=b/\y=n then[] else[]) p y++if p=b/\y=n then((L.take j).map fun x=>(Ms.uns x.1.key:Ms (List Wnt) (List Atr))) else[]) w6)) (fun i _=>L.length-(intOf i).toNat);case atStart=>exact⟨0,zZ,rfl,H5⟩
     case round=>
      obtain⟨j,hj,rfl,H6⟩:=hrel;clear H5;by_cases hjl:j<L.length
      ·obtain⟨xb,rfl⟩:=HXA (by omega);(have O6:Hid (wr.ownsRow w3.heap.size 124 4 (.slice (some ⟨xb,0,none⟩) L.length xk) L.length (hH L)):=by obtain⟨r',qs',z1,z2,z3⟩:=H6.out;exact z2.owns O5.out N5.out);obtain⟨d0,d1,d2,d3⟩:=qJ L j hjl;rw[<-aH O6.out _ (by omega)] at d0 d1 d2 d3;have hmj:=LM _ (nY hjl);have TK:=hZ (Fb hjl);generalize hat L j=y at *;have HMJ:=hZ hmj;have H7:=hZ (H6.gr ((Gr.refl wr).alloc (.cells #[.int .i64 y.1.key.1,.int .i64 y.1.key.2,.slice y.2.1 y.1.f.length y.2.2,.int .i64 y.1.fr] 124)));have SN6:=hZ (sX H7.out hmem.2 ⟨.uns y.1.key,none,0⟩ (m0:=.slice none 0 0) (m1:=.int .i64 y.1.key.1) (m2:=.int .i64 y.1.key.2) (m3:=.slice none 0 0) rfl (fun r' qs' t _=>(t.h.fi b hb y HMJ.out).2) (by have:=List.length_take_le j L;simp only[aG,LEN.out,aB,and_self,if_true,dQ];(have hf1:(([]:List (Ms (List Wnt) (List Atr)))).length<=1:=by simp);omega));clear hmj O6 H6;go_wp2_with fail;refine SN6.mono ?_;rintro e w7 ⟨rfl,H8⟩;have H9:Hid (Ho T r3 w5 Xs cls (fun p y=>(fun p y=>jV (fun x y=>(qs x y).map Mm.ms) b (pN l h) (NB.take q) p y++if p=b/\y=n then[] else[]) p y++if p=b/\y=n then((L.take (j+1)).map fun x=>(Ms.uns x.1.key:Ms (List Wnt) (List Atr))) else[]) w7):=H8.cong fun p z=>by
        by_cases hpz:p=b/\z=n
        ·simp only[if_pos hpz];rw[TK.out,aU,aU]
        ·simp only[if_neg hpz,aZ]
       clear SN6 H7 H8 d0 d1 d2 d3;go_wp2_with fail;exact⟨⟨j+1,hjl,by simp,H9⟩,gD _ _ hjl⟩
      ·(have hje:j=L.length:=by omega);subst hje;have H9:Hid (Ho T r w1 Xs cls (jV (fun x y=>(qs x y).map Mm.ms) b (pN l h) (NB.take (q+1))) wr):=(H6.from_ F5.out).cong fun p z=>by
        rw[STEP.out p z];by_cases hpz:p=b/\z=n
        ·simp only[if_pos hpz,bB];rw[hpz.2,OUT.out,aU];congr 2;rw[<-WOT.out];simp[qM]
        ·simp only[if_neg hpz,aZ]
       clear H6;go_wp2_with fail;exact⟨⟨q+1,hlt,by simp,H9⟩,gD _ _ hlt⟩
  ·(have hqe:q=NB.length:=by omega);subst hqe;rw[bB] at HO;obtain⟨r2,q2,z1,z2,z3⟩:=HO.out;have gd:Gr wr wr.drew:=(Gr.refl wr).drew;obtain⟨es,clock,hmp⟩:=(z1.h.at' b hb).2;have hno:∀v,(pk h.key,v)∉(Xs b).map mv:=by intro v hv';obtain⟨x,hx,e⟩:=aC.1 hv';injection e with e1 e2;exact HNEW x hx (mT e1)
   obtain⟨lk,hlk⟩:=Jv h.key HK.1 HK.2;obtain⟨hup,hM'⟩:=Mp.put_new (v:=.agg (hv h a' c')) Tryz.keyedK underlying111 (hmp.kept (w':=wr.drew) rfl) hlk hno;(have hmap:(Xs b).map mv++[(pk h.key,.agg (hv h a' c'))]=(Xs b++[(h,a',c')]).map mv:=by rw[aS];rfl);rw[hmap] at hM';have F1:=(z2.trans (Fr.gr gd));have FIN:=hZ (Tm.turn (z1.gr gd) hb (Xs b++[(h,a',c')]) hM' (fun x hx=>by
    rcases aE.1 hx with hx|hx
    ·exact(z1.gr gd).h.fi b hb x hx
    ·rw[aM.1 hx];exact⟨FIW r2 wr.drew F1,HK.out⟩))
   have F2:=hZ ((Fr.gr (r:=r) G1.out).trans F1);have Z3:=hZ z3;have c0:=z1.b.c0;have cb:=z1.b.hb b hb;have hTB:=z1.tlt;unfold pk hv at hup;clear hM' hmap hno hmp F1 z1 z2 z3 HO;go_wp2_with fail;go_region;exact bodyPost_end (v:=.tuple #[]) (by simp[results,results42,go_sem]) rfl ⟨rfl,r2,q2,FIN.1,F2.trans FIN.2,Z3.out⟩
def rR(l:List Hw)(h:Hw)(n:Nat):List (Ms (List Wnt) (List Atr)):=if(n:Int)=h.fr then[] else rL (woT cov l n h)++(if isT cov l n h then[.uns h.key] else[])
theorem Qv{L:List Hm}(h:j<L.length):((L.take (j+1)).map fun x=>(Ms.sub x.1.key x.1.f:Ms (List Wnt) (List Atr)))=((L.take j).map fun x=>.sub x.1.key x.1.f)++[.sub (hat L j).1.key (hat L j).1.f]:=by rw[Gu h,aS];rfl
theorem Wp{X:List Hm}(h:((X.map mv).map Prod.fst).Nodup){X1 X2:List Hm}{x:Hm}(e:X=X1++x::X2)(y:Hm):y∈X1++X2↔y∈X/\y.1.key≠x.1.key:=by
 subst e;simp only[aS,bH] at h;rw[dF] at h;obtain⟨h1,h2,h3⟩:=h;have h4:=(fB.1 h2).1;constructor
 ·intro hy;rcases aE.1 hy with hy|hy
  ·refine⟨by simp[hy],fun e=>?_⟩;exact h3 (mv y).1 (aC.2 ⟨mv y,aC.2 ⟨y,hy,rfl⟩,rfl⟩) (mv x).1 (by simp) (by show pk _=pk _;rw[e])
  ·refine⟨by simp[hy],fun e=>?_⟩;exact h4 (aC.2 ⟨mv y,aC.2 ⟨y,hy,rfl⟩,by show pk _=pk _;rw[e]⟩)
 ·rintro⟨hy,hne⟩;rcases aE.1 hy with hy|hy
  ·simp[hy]
  ·rcases aN.1 hy with rfl|hy
   ·exact absurd rfl hne
   ·simp[hy]
theorem Uh(T:Tc)(r:Nat->Rl)(w:World)(Xs:Nat->List Hm)(qs:Nat->Nat->List Mm)(cls:List Cl)(b:Nat)(h:Hw)(a':Option Addr)(c':Nat)(l:List Hw)(hT:Tm T r w Xs qs cls)(hb:b<T.nb)(hh:(h,a',c')∈Xs b)(hs:Srt l)(hl:∀g,g∈l↔∃x∈Xs b,x.1=g/\g.key≠h.key)(hX:(Xs b).length<=1048576)(hq:∀n,(qs b n).length<549755813888):Calls prog 48 #[.pointer (some ⟨T.TB,0,none⟩),.int .i64 b,.agg #[.int .i64 h.key.1,.int .i64 h.key.2]] w fun e w'=>e=.returned (.tuple #[])/\∃X' r' qs',(∀y,y∈X'↔y∈Xs b/\y.1.key≠h.key)/\X'.length<(Xs b).length/\Tm T r' w' (fun c=>if c=b then X' else Xs c) qs' cls/\Fr r r' w w'/\∀x y,(qs' x y).map Mm.ms=jV (fun x y=>(qs x y).map Mm.ms) b (rR l h) (nbs T.adj T.nb b T.nb) x y:=by
 have ga:Gr w (w.alloc (.cells #[.int .i64 h.key.1,.int .i64 h.key.2] 97)):=(Gr.refl w).alloc _;have HB0:=fY w (.cells #[.int .i64 h.key.1,.int .i64 h.key.2] 97);have HTM:=hZ hT;have HNB:=hT.b.nb8;obtain⟨hF,hk⟩:=hT.h.fi b hb _ hh;have HK:=hZ hk;have HF:=hZ hF;obtain⟨es,clock,hmp⟩:=(hT.h.at' b hb).2;obtain⟨lk,hlk⟩:=Jv h.key hk.1 hk.2;have hmm:(pk h.key,.agg (hv h a' c'))∈(Xs b).map mv:=aC.2 ⟨_,hh,rfl⟩;have hlu:=Mp.look_yes Tryz.keyedK underlying111 (hmp.kept (w':=(w.alloc (.cells #[.int .i64 h.key.1,.int .i64 h.key.2] 97)).drew) (ga.block _ hmp.lt)) hlk hmm false;have hlu2:=Mp.look_yes Tryz.keyedK underlying111 (hmp.kept (w':=((w.alloc (.cells #[.int .i64 h.key.1,.int .i64 h.key.2] 97)).alloc (.cells #[.int .i64 0,.int .i64 0,.slice none 0 0,.int .i64 0] 124)).drew) ((ga.alloc _).block _ hmp.lt)) hlk hmm false;have hTB:=(hT.gr ga).tlt;have hHB:=(hT.gr ga).hlt;have c0:(w.alloc (.cells #[.int .i64 h.key.1,.int .i64 h.key.2] 97)).cell? ⟨T.TB,0,none⟩=some (.slice (some ⟨T.HB,0,none⟩) T.nb T.hcap):=(hT.gr ga).b.c0;have cb:(w.alloc (.cells #[.int .i64 h.key.1,.int .i64 h.key.2] 97)).cell? ⟨T.HB,b,none⟩=some (.map (some (T.MB b))):=(hT.gr ga).b.hb b hb;have k0:(w.alloc (.cells #[.int .i64 h.key.1,.int .i64 h.key.2] 97)).cell? ⟨w.heap.size,0,none⟩=some (.int .i64 h.key.1):=by rw[cZ HB0];rfl
 have k1:(w.alloc (.cells #[.int .i64 h.key.1,.int .i64 h.key.2] 97)).cell? ⟨w.heap.size,1,none⟩=some (.int .i64 h.key.2):=by rw[cZ HB0];rfl
 have hsz:(w.alloc (.cells #[.int .i64 h.key.1,.int .i64 h.key.2] 97)).heap.size=w.heap.size+1:=by simp
 have HMP:=hZ hmp;have HMM:=hZ hmm;have HH:=hZ hh;have HS:=hZ hs;have HL:=hZ hl;have HQ:=hZ hq;have GA:=hZ ga;have HHB:=hZ HB0;unfold pk hv at hlu hlu2;have NMEM:Hid (∀n,n∈nbs T.adj T.nb b T.nb->n<T.nb/\T.adj b n=true):=fun n hn=>(kV.1 hn).2;have NND:=hZ (Dj T.adj T.nb b T.nb);have NLE:=wA T.adj T.nb b T.nb;have NBS:Hid (∀(W3:World)(Ys:Nat->List Hm),Tm T r W3 Ys qs cls->Calls prog 71 #[.pointer (some ⟨T.TB,0,none⟩),.int .i64 b] W3 fun e w'=>∃v,e=.returned v/\w'.ownsRow W3.heap.size 3 1 v (nbs T.adj T.nb b T.nb).length (kT (nbs T.adj T.nb b T.nb))/\Gr W3 w'):=fun W3 Ys t=>nD (T:=T) (r:=r) (w0:=W3) (Xs:=Ys) (cls:=cls) (base:=fun x y=>(qs x y).map Mm.ms) ⟨r,qs,t,Fr.refl _ _,fun _ _=>rfl⟩ hb;generalize nbs T.adj T.nb b T.nb=NB at *;clear hT hh hs hl hq ga hmp hmm hF hk HB0;go_enter func48,ntmps48;go_wp2_with fail;generalize(w.alloc (.cells #[.int .i64 h.key.1,.int .i64 h.key.2] 97))=W1 at *;have hws:w.heap.size<W1.heap.size:=by omega
 have gz:Gr W1 (W1.alloc (.cells #[.int .i64 0,.int .i64 0,.slice none 0 0,.int .i64 0] 124)):=(Gr.refl W1).alloc _;have c0':=(gz.cell (p:=⟨T.TB,0,none⟩) hTB).trans c0;have cb':=(gz.cell (p:=⟨T.HB,b,none⟩) hHB).trans cb;have k0':=(gz.cell (p:=⟨w.heap.size,0,none⟩) hws).trans k0;have k1':=(gz.cell (p:=⟨w.heap.size,1,none⟩) hws).trans k1;clear gz;go_region;all_goals
  clear hlu hlu2 c0' cb' k0' k1';have G2:Gr w (W1.alloc (.cells #[.int .i64 h.key.1,.int .i64 h.key.2,.slice a' h.f.length c',.int .i64 h.fr] 124)).drew:=(GA.alloc _).drew;have HKB:=gK (((Gr.refl W1).alloc (.cells #[.int .i64 h.key.1,.int .i64 h.key.2,.slice a' h.f.length c',.int .i64 h.fr] 124)).drew) HHB.out;have HHD:(W1.alloc (.cells #[.int .i64 h.key.1,.int .i64 h.key.2,.slice a' h.f.length c',.int .i64 h.fr] 124)).drew.heap[w.heap.size+1]?=some (.cells #[.int .i64 h.key.1,.int .i64 h.key.2,.slice a' h.f.length c',.int .i64 h.fr] 124 (0,0)):=by rw[<-hsz];exact fY W1 _
  generalize(W1.alloc (.cells #[.int .i64 h.key.1,.int .i64 h.key.2,.slice a' h.f.length c',.int .i64 h.fr] 124)).drew=W2 at *;have T2:=HTM.gr G2;obtain⟨es',m1,m2,hm12,hcut,hM'⟩:=Mp.cut Tryz.keyedK underlying111 (HMP.kept (w':=W2.drew) (G2.block _ HMP.lt)) hlk HMM.out 0 97;obtain⟨X1,X2,hX12,hX1,hX2⟩:∃X1 X2,Xs b=X1++(h,a',c')::X2/\X1.map mv=m1/\X2.map mv=m2:=by
   obtain⟨X1,Y,e1,e2,e3⟩:=List.map_eq_append_iff.1 hm12;obtain⟨y,X2,e4,e5,e6⟩:=eU.1 e3;have hy:y=(h,a',c'):=by
    (have hyk:(mv y).1=(mv (h,a',c')).1:=by rw[e5];rfl);have hd:=HMP.nod;rw[bV] at hd;exact vD hd (by rw[e1,e4];simp) HH.out hyk
   exact⟨X1,X2,by rw[e1,e4,hy],e2,e6⟩
  have XIF:=hZ (Wp HMP.nod hX12);have XLE:(X1++X2).length<(Xs b).length:=by rw[hX12];simp
  rw[<-hX1,<-hX2,<-aS] at hM';have gd:Gr W2 W2.drew:=(Gr.refl W2).drew;have FIN:=Tm.turn (T2.gr gd) hb (X1++X2) hM' (fun x hx=>(T2.gr gd).h.fi b hb x (((XIF x).1 hx).1));have hnm:r (w.heap.size+1)=.no:=HTM.b.top _ (cD _);have hnm2:r w.heap.size=.no:=HTM.b.top _ lZ;have F2:=hZ ((Fr.gr (r:=r) (G2.drew)).trans FIN.2);have HHD3:=hZ ((FIN.2.keep _ (fZ (w:=W2.drew) HHD) (Or.inl hnm)).trans HHD);have q0:W2.cell? ⟨w.heap.size,0,none⟩=some (.int .i64 h.key.1):=by rw[cZ HKB];rfl
  have q1:W2.cell? ⟨w.heap.size,1,none⟩=some (.int .i64 h.key.2):=by rw[cZ HKB];rfl
  have c2:=T2.b.c0;have cb2:=T2.b.hb b hb;have TM3:=hZ FIN.1;unfold pk at hcut;clear FIN hM' hm12 hX1 hX2 hX12 gd T2 c0 cb k0 k1 HHD HKB hnm hnm2;go_wp2_with fail;go_region;have HL2:Hid (∀g,g∈l↔∃x∈(fun c=>if c=b then X1++X2 else Xs c) b,x.1=g):=fun g=>by
   simp only[if_true];rw[HL.out g];constructor
   ·rintro⟨x,hx,rfl,hk⟩;exact⟨x,(XIF x).2 ⟨hx,hk⟩,rfl⟩
   ·rintro⟨x,hx,rfl⟩;exact⟨x,((XIF x).1 hx).1,rfl,((XIF x).1 hx).2⟩
  have hX3:((fun c=>if c=b then X1++X2 else Xs c) b).length<=1048576:=by simp only[if_true];omega
  have FINX:Hid (∀w' r' qs',Tm T r' w' (fun c=>if c=b then X1++X2 else Xs c) qs' cls->Fr r r' w w'->(∀x y,(qs' x y).map Mm.ms=jV (fun x y=>(qs x y).map Mm.ms) b (rR l h) NB x y)->∃X' r' qs',(∀y,y∈X'↔y∈Xs b/\y.1.key≠h.key)/\X'.length<(Xs b).length/\Tm T r' w' (fun c=>if c=b then X' else Xs c) qs' cls/\Fr r r' w w'/\∀x y,(qs' x y).map Mm.ms=jV (fun x y=>(qs x y).map Mm.ms) b (rR l h) NB x y):=fun w' r' qs' z1 z2 z3=>⟨X1++X2,r',qs',XIF.out,XLE,z1,z2,z3⟩;clear HL hcut c2 cb2 q0 q1 G2;generalize setBlock W2.drew (T.MB b) (.map es' clock)=W3 at *;generalize(fun c=>if c=b then X1++X2 else Xs c)=Ys at *;go_wp2_with fail;refine(NBS W3 Ys TM3.out).mono ?_;rintro e w1 ⟨v,rfl,ho,g1⟩;obtain⟨va,vk,rfl,hva⟩:=gH ho;have G1:=hZ g1;have B1:=hZ (gK g1 HHD3.out);have O1:=hZ ho;have H1:Hid (Ho T r w1 Ys cls (jV (fun x y=>(qs x y).map Mm.ms) b (rR l h) (NB.take 0)) w1):=⟨r,qs,TM3.gr g1,Fr.refl _ _,fun x y=>by rw[bY,zB]⟩;have F3:=hZ (F2.trans (Fr.gr g1));have NO:Hid (∀k,w.heap.size<=k->r k=.no):=HTM.b.top;have HVA:=hZ hva;have SZ3:=F2.size;clear NBS HHD3 ho g1 hva F2;go_wp2_with fail;go_loopw [32] (fun i wr=>∃q:Nat,q<=NB.length/\i=.int .i64 q/\Hid (Ho T r w1 Ys cls (jV (fun x y=>(qs x y).map Mm.ms) b (rR l h) (NB.take q)) wr)) (fun i _=>NB.length-(intOf i).toNat);case atStart=>exact⟨0,zZ,rfl,H1⟩
  case round=>
   obtain⟨q,hq,rfl,HO⟩:=hrel;clear H1;have hB:=HO.blk B1.out (Or.inl (NO _ (cD _)));(have b0:wr.cell? ⟨w.heap.size+1,0,none⟩=some (.int .i64 h.key.1):=by rw[cZ hB];rfl);(have b1:wr.cell? ⟨w.heap.size+1,1,none⟩=some (.int .i64 h.key.2):=by rw[cZ hB];rfl);(have b2:wr.cell? ⟨w.heap.size+1,2,none⟩=some (.slice a' h.f.length c'):=by rw[cZ hB];rfl);(have b3:wr.cell? ⟨w.heap.size+1,3,none⟩=some (.int .i64 h.fr):=by rw[cZ hB];rfl);(have FIW:Hid (∀r' w',Fr r r' w1 w'->FiR r' w' a' h.f):=fun r' w' k=>by have k2:=F3.trans k;exact HF.keep k2.size (fun i hi hr=>k2.keep i hi (Or.inr hr)) k2.same);clear hB;by_cases hlt:q<NB.length
   ·obtain⟨vb,rfl⟩:=HVA (by omega);have OW:Hid (wr.ownsRow W3.heap.size 3 1 (.slice (some ⟨vb,0,none⟩) NB.length vk) NB.length (kT NB)):=by obtain⟨r',qs',z1,z2,z3⟩:=HO.out;exact z2.owns O1.out (fun k hk=>NO k (by omega))
    (have cq:wr.cell? ⟨vb,q,none⟩=some (.int .i64 (lG NB q)):=by rw[aH OW.out q (by omega)];simp[kT,lG,hlt]);have hmem:=NMEM _ (uT hlt);have STEP:=hZ (vW (q:=fun x y=>(qs x y).map Mm.ms) (b:=b) (out:=rR l h) NND.out hlt);have LEN:=hZ (zC (q:=fun x y=>(qs x y).map Mm.ms) (b:=b) (out:=rR l h) NND.out hlt);have hlq:=HQ (lG NB q);clear OW;generalize lG NB q=n at *;by_cases hfr:(n:Int)=h.fr
    ·(have hfr':((n:Int)==h.fr)=true:=by simpa using hfr);have H2:Hid (Ho T r w1 Ys cls (jV (fun x y=>(qs x y).map Mm.ms) b (rR l h) (NB.take (q+1))) wr):=HO.cong fun x y=>by
      rw[STEP.out x y];have:(if x=b/\y=n then rR l h y else[])=[]:=by
       split
       ·rename_i hh;rw[hh.2];exact if_pos hfr
       ·rfl
      rw[this,aZ]
     clear HO;rw[hfr] at cq;go_wp2_with fail;exact⟨⟨q+1,hlt,by simp,H2⟩,gD _ _ hlt⟩
    ·(have hfr':((n:Int)==h.fr)=false:=by simpa using hfr);have FW:Hid (FiM wr a' h.f):=by obtain⟨r',qs',z1,z2,z3⟩:=HO.out;exact(FIW r' wr z2).m
     have OUT:Hid (rR l h n=rL (woT cov l n h)++(if isT cov l n h then[.uns h.key] else[])):=if_neg hfr;have ISC:isT cov ((Ys b).map (·.1)) n h=isT cov l n h:=vC (fun g=>by rw[HL2.out g,aC]) n h;have HISC:=hZ ISC;clear ISC;have TW:=hZ (oR HO.out hb n h a' c' FW.out hX3);unfold hv at TW;go_wp2_with fail;refine TW.mono ?_;rintro e w5 ⟨v5,L,rfl,ho5,hL1,hL2,g5⟩;obtain⟨r3,q3,z1,z2,z3⟩:=HO.out;obtain⟨xa,xk,rfl,hxa⟩:=gH ho5;have WOT:=hZ (Ix HS.out HL2.out hL1 hL2);have LM:Hid (∀x∈L,x∈Ys b):=fun x hx=>((hL2 x).1 hx).1;have LLE:L.length<=1048576:=by
      (have hnd:(L.map fun x=>x.1.key).Pairwise fun x y=>x≠y:=by rw[cB];exact hL1.imp (fun h=>rW h));have:=nC (L.map fun x=>x.1.key) ((Ys b).map fun x=>x.1.key) hnd (fun k hk=>by obtain⟨x,hx,rfl⟩:=aC.1 hk;exact aC.2 ⟨x,((hL2 x).1 hx).1,rfl⟩);simp only[aB] at this;omega
     have H5:Hid (Ho T r3 w5 Ys cls (fun p y=>jV (fun x y=>(qs x y).map Mm.ms) b (rR l h) (NB.take q) p y++if p=b/\y=n then((L.take 0).map fun x=>(Ms.sub x.1.key x.1.f:Ms (List Wnt) (List Atr))) else[]) w5):=⟨r3,q3,z1.gr g5,Fr.refl _ _,fun x y=>by rw[z3];simp⟩;have F5:=hZ (z2.trans (Fr.gr g5));have O5:=hZ ho5;have N5:Hid (∀k,wr.heap.size<=k->r3 k=.no):=z1.b.top;have HXA:=hZ hxa;clear TW HO z1 z2 z3 ho5 hL1 hL2 g5 b0 b1 b2 b3 hxa FW cq;go_wp2_with fail;go_loopw [46] (fun i w6=>∃j:Nat,j<=L.length/\i=.int .i64 j/\Hid (Ho T r3 w5 Ys cls (fun p y=>jV (fun x y=>(qs x y).map Mm.ms) b (rR l h) (NB.take q) p y++if p=b/\y=n then((L.take j).map fun x=>(Ms.sub x.1.key x.1.f:Ms (List Wnt) (List Atr))) else[]) w6)) (fun i _=>L.length-(intOf i).toNat);case atStart=>exact⟨0,zZ,rfl,H5⟩
     case round=>
      obtain⟨j,hj,rfl,H6⟩:=hrel;clear H5;by_cases hjl:j<L.length
      ·obtain⟨xb,rfl⟩:=HXA (by omega);obtain⟨d0,d1,d2,d3⟩:=qJ L j hjl;have O6:=H6.out;obtain⟨r',qs',z1,z2,z3⟩:=O6;have O7:=z2.owns O5.out N5.out;rw[<-aH O7 _ (by omega)] at d0 d1 d2 d3;have hmj:=LM _ (nY hjl);have TK:=hZ (Qv hjl);generalize hat L j=y at *;have HMJ:=hZ hmj;have H7:=hZ (H6.gr ((Gr.refl wr).alloc (.cells #[.int .i64 y.1.key.1,.int .i64 y.1.key.2,.slice y.2.1 y.1.f.length y.2.2,.int .i64 y.1.fr] 124)));have SN6:=hZ (sX H7.out hmem.2 ⟨.sub y.1.key y.1.f,y.2.1,y.2.2⟩ (m0:=.slice none 0 0) (m1:=.int .i64 y.1.key.1) (m2:=.int .i64 y.1.key.2) (m3:=.slice y.2.1 y.1.f.length y.2.2) rfl (fun r' qs' t _=>⟨(t.h.fi b hb y HMJ.out).2,(t.h.fi b hb y HMJ.out).1⟩) (by have:=List.length_take_le j L;simp only[aG,LEN.out,aB,and_self,if_true,dQ];omega));clear hmj O7 z1 z2 z3 H6;go_wp2_with fail;refine SN6.mono ?_;rintro e w7 ⟨rfl,H8⟩;have H9:Hid (Ho T r3 w5 Ys cls (fun p y=>jV (fun x y=>(qs x y).map Mm.ms) b (rR l h) (NB.take q) p y++if p=b/\y=n then((L.take (j+1)).map fun x=>(Ms.sub x.1.key x.1.f:Ms (List Wnt) (List Atr))) else[]) w7):=H8.cong fun p z=>by
        by_cases hpz:p=b/\z=n
        ·simp only[if_pos hpz];rw[TK.out,aU]
        ·simp only[if_neg hpz,aZ]
       clear SN6 H7 H8 d0 d1 d2 d3;go_wp2_with fail;exact⟨⟨j+1,hjl,by simp,H9⟩,gD _ _ hjl⟩
      ·(have hje:j=L.length:=by omega);subst hje;have H9:=hZ (H6.from_ F5.out);have FW:Hid (FiM wr a' h.f):=by obtain⟨r',qs',z1,z2,z3⟩:=H9.out;exact(FIW r' wr z2).m
       have hB:=H9.blk B1.out (Or.inl (NO _ (cD _)));(have b0:wr.cell? ⟨w.heap.size+1,0,none⟩=some (.int .i64 h.key.1):=by rw[cZ hB];rfl);(have b1:wr.cell? ⟨w.heap.size+1,1,none⟩=some (.int .i64 h.key.2):=by rw[cZ hB];rfl);(have b2:wr.cell? ⟨w.heap.size+1,2,none⟩=some (.slice a' h.f.length c'):=by rw[cZ hB];rfl);(have b3:wr.cell? ⟨w.heap.size+1,3,none⟩=some (.int .i64 h.fr):=by rw[cZ hB];rfl);have IT:=hZ (Cm H9.out hb n h a' c' FW.out);unfold hv at IT;rw[HISC.out] at IT;clear hB H6;go_wp2_with fail;refine IT.mono ?_;clear IT;cases hit:isT cov l n h with
       |true=>
        rintro e w2 ⟨rfl,g2⟩;have H2:=hZ (H9.gr g2);have hB2:=H2.blk B1.out (Or.inl (NO _ (cD _)));(have b0':w2.cell? ⟨w.heap.size+1,0,none⟩=some (.int .i64 h.key.1):=by rw[cZ hB2];rfl);(have b1':w2.cell? ⟨w.heap.size+1,1,none⟩=some (.int .i64 h.key.2):=by rw[cZ hB2];rfl);have SND:=hZ (sX H2.out hmem.2 ⟨.uns h.key,none,0⟩ (m0:=.slice none 0 0) (m1:=.int .i64 h.key.1) (m2:=.int .i64 h.key.2) (m3:=.slice none 0 0) rfl (fun r' qs' _ z=>HK.out) (by simp only[aG,LEN.out,aB,and_self,if_true,dQ];omega));clear hB2 g2 b0 b1 b2 b3 H9;go_wp2_with fail;refine SND.mono ?_;rintro e w3 ⟨rfl,H3⟩;have HE:Hid (Ho T r w1 Ys cls (jV (fun x y=>(qs x y).map Mm.ms) b (rR l h) (NB.take (q+1))) w3):=H3.cong fun p z=>by
         rw[STEP.out p z];by_cases hpz:p=b/\z=n
         ·simp only[if_pos hpz,bB];rw[hpz.2,OUT.out,hit,<-WOT.out,aU];simp[rL]
         ·simp only[if_neg hpz,aZ]
        clear SND H2 H3;go_wp2_with fail;exact⟨⟨q+1,hlt,by simp,HE⟩,gD _ _ hlt⟩
       |false=>
        rintro e w3 ⟨rfl,g2⟩;have HE:Hid (Ho T r w1 Ys cls (jV (fun x y=>(qs x y).map Mm.ms) b (rR l h) (NB.take (q+1))) w3):=(H9.gr g2).cong fun p z=>by
         rw[STEP.out p z];by_cases hpz:p=b/\z=n
         ·simp only[if_pos hpz,bB];rw[hpz.2,OUT.out,hit,<-WOT.out];simp[rL]
         ·simp only[if_neg hpz,aZ]
        clear H9 g2;go_wp2_with fail;exact⟨⟨q+1,hlt,by simp,HE⟩,gD _ _ hlt⟩
   ·(have hqe:q=NB.length:=by omega);subst hqe;rw[bB] at HO;obtain⟨r2,q2,z1,z2,z3⟩:=HO.out;have FE:=hZ (FINX wr r2 q2 z1 (F3.trans z2) z3);clear z1 z2 z3 HO;go_wp2_with fail;exact bodyPost_end (v:=.tuple #[]) (by simp[results,results48,go_sem]) rfl ⟨rfl,FE.out⟩
end Go.Proofs.YtecnfgikbmcgoabGreat
