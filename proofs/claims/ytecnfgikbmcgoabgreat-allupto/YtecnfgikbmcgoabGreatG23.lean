import Derived.Test.YtecnfgikbmcgoabGreatG22
import Derived.Conc.LoneSelect
set_option maxHeartbeats 8000000
set_option maxRecDepth 100000
namespace Go.Proofs.YtecnfgikbmcgoabGreat
open Go.Proofs.Tryz
open Go.RowKit
open Go.Maps (Keyed)
open Go.ChangeMaps (setBlock)
variable {T:Tc}{buf:Array Value}{c:Nat}{cs:List (Pc (List Atr))}{tm:Bool}{w w':World}{x:Code}{z:Value}
theorem EvM.len8{ad:Option Addr}{l:List Atr}(h:EvM w ad l):1<=l.length/\l.length<=8:=by have:=h.ok;simp only[kZ,aP,decide_eq_true_eq] at this;omega
def sdP(s:Bool×Int)(x:Hm):Bool:=decide (sd x.1=s)
theorem Tryz.infoFil:(Tryz.prog.info? 73).map (fun i=>(i.zero,i.size,i.bytes))=some (some (.slice none 0 0),1,24):=by kernel_rfl
theorem Fh(h:Hw)(a:Option Addr)(c:Nat)(w:World):Calls prog 98 #[.agg (hv h a c)] w fun e w'=>e=.returned (.agg #[.bool (sd h).1,.int .i64 (sd h).2])/\Gr w w':=by
 unfold hv;have hsz:∀o:Obj,(w.alloc o).heap.size=w.heap.size+1:=fun o=>by simp
 by_cases hf:h.fr=-1
 ·have HS:Hid (sd h=(true,h.key.1)):=if_pos hf;go_enter func98,ntmps98;rw[hf];go_wp2_with fail;exact bodyPost_ret (v:=.agg #[.bool true,.int .i64 h.key.1]) (by simp[results,results98,go_sem]) rfl ⟨by rw[HS.out],((Gr.refl w).alloc _).alloc _⟩
 ·have HS:Hid (sd h=(false,h.fr)):=if_neg hf;have hf':(h.fr==-1)=false:=by simpa using hf
  go_enter func98,ntmps98;go_wp2_with fail;exact bodyPost_ret (v:=.agg #[.bool false,.int .i64 h.fr]) (by simp[results,results98,go_sem]) rfl ⟨by rw[HS.out],((Gr.refl w).alloc _).alloc _⟩
def pS(L:List Hm):List Value:=L.map fun x=>.slice x.2.1 x.1.f.length x.2.2
theorem Hf(L:List Hm)(x:Hm):pS (L++[x])=pS L++[.slice x.2.1 x.1.f.length x.2.2]:=by simp[pS]
theorem Ku(l:List Atr)(ad va:Option Addr)(cap vk:Nat)(w:World)(h:EvM w ad l):Calls prog 99 #[.slice ad l.length cap,.slice va 0 vk] w fun e w'=>e=.returned (.tuple #[.slice none 0 0,.int .i64 0])/\Gr w w':=by
 have HC:=hZ (lR l ad cap w (by have:=h.len8;unfold maxLen;omega) (Or.inr h.at') h.wf);rw[show oB l=0 by simp[oB,h.ok]] at HC;clear h;go_enter func99,ntmps99;go_wp2_with fail;refine HC.mono ?_;rintro e w1 ⟨rfl,g1⟩;have G1:=hZ g1;clear HC g1;go_wp2_with fail;go_loopw [7,18] (fun v i wr=>v=.slice none 0 0/\i=.int .i64 0/\Hid (Gr w wr)) (fun _ _ _=>0);case atStart=>exact⟨rfl,rfl,G1⟩
 case round=>obtain⟨rfl,rfl,G⟩:=hrel;go_wp2_with fail;go_ret2;exact⟨rfl,G.out⟩
theorem aAC{base g cap:Nat}{L:List Hm}(h:w.ownsRow base 73 1 (.slice (some ⟨g,0,none⟩) L.length cap) L.length (pS L))(hf:∀x∈L,FiM w x.2.1 x.1.f):Cv w g 0 (L.map fun x=>x.1.f):=by
 intro i hi;rw[aB] at hi;have he:fat (L.map fun x=>x.1.f) i=L[i].1.f:=by simp[fat,hi]
 refine⟨L[i].2.1,L[i].2.2,?_,?_⟩
 ·rw[cE,aH h i (by omega),he];simp[pS,hi]
 ·rw[he];exact Or.inr (hf _ (eG hi)).at'
theorem Tv(e:List Atr)(fs:List (List Wnt)):(0<(nQ e fs fs.length).length)↔(fs.any fun f=>mat e f)=true:=by
 rw[List.length_pos_iff_exists_mem];simp only[nQ,aY,eF,bT];constructor
 ·rintro⟨i,h1,h2⟩;exact⟨_,xX h1,h2⟩
 ·rintro⟨f,h1,h2⟩;obtain⟨i,hi,rfl⟩:=List.mem_iff_getElem.1 h1;exact⟨i,hi,by simpa[fat,hi] using h2⟩
theorem Ux(TB HB hoff nb hcap b MB:Nat)(s:Bool×Int)(ev:List Atr)(ad:Option Addr)(cap:Nat)(X:List Hm)(es:Array MapEntry)(clock:Nat)(m:Int)(w:World)(c0:w.cell? ⟨TB,0,none⟩=some (.slice (some ⟨HB,hoff,none⟩) nb hcap))(cb:w.cell? ⟨HB,hoff+b,none⟩=some (.map (some MB)))(hb:b<nb)(hTB:TB<w.heap.size)(hHB:HB<w.heap.size)(hX:X.length<=1048576)(hp:Hp w MB X es clock)(he:EvM w ad ev)(hM:Ml m w):Calls prog 83 #[.pointer (some ⟨TB,0,none⟩),.int .i64 b,.agg #[.bool s.1,.int .i64 s.2],.slice ad ev.length cap] w fun e w'=>e=.returned (.bool (X.any fun x=>sdP s x&&mat ev x.1.f))/\Gr w w':=by
 obtain⟨i0,hi,hz0,hz1,hz2⟩:=info_parts Tryz.infoFil;have HP:=hZ hp;have HE:=hZ he;have HM:=hZ hM;clear hp he hM;have ga:Gr w (w.alloc (.cells #[.bool s.1,.int .i64 s.2] 143)):=(Gr.refl w).alloc _;have hrg:=run_range_map (P:=prog) (w.alloc (.cells #[.bool s.1,.int .i64 s.2] 143)) 111 97 124 MB es clock underlying111 (HP.gr ga).mp.blk;have hsz:(w.alloc (.cells #[.bool s.1,.int .i64 s.2] 143)).heap.size=w.heap.size+1:=by simp
 rw[hsz] at hrg;have GA:=hZ ga;clear ga hsz;go_enter func83,ntmps83;go_wp2_with fail;have H0:=hZ (gK (gZ.alloc (.mapIter (some MB) clock #[] clock)) (fY w (.cells #[.bool s.1,.int .i64 s.2] 143)));have I0:Hid (((w.alloc (.cells #[.bool s.1,.int .i64 s.2] 143)).alloc (.mapIter (some MB) clock #[] clock)).heap[w.heap.size+1]?=some (.mapIter (some MB) clock #[] clock)):=by have:=fY (w.alloc (.cells #[.bool s.1,.int .i64 s.2] 143)) (.mapIter (some MB) clock #[] clock);rw[show(w.alloc (.cells #[.bool s.1,.int .i64 s.2] 143)).heap.size=w.heap.size+1 by simp] at this;exact this
 have G0:=hZ (GA.alloc (.mapIter (some MB) clock #[] clock));clear hrg GA c0 cb;go_loopw [9] (fun v wr=>∃(seen:Array Nat)(L:List Hm),Hid (wr.heap[w.heap.size+1]?=some (.mapIter (some MB) clock seen clock))/\Hid (Gr w wr)/\Hid (wr.heap[w.heap.size]?=some (.cells #[.bool s.1,.int .i64 s.2] 143 (0,0))) /\Hid (wr.ownsRow (w.heap.size+1) 73 1 v L.length (pS L))/\Hid (Hl X es (sdP s) seen L)) (fun _ wr=>(leftOf es (wr.iterSeen (w.heap.size+1))).size);case atStart=>exact⟨#[],[],I0,G0,H0,bF _ _ _ _,Hl.init X es _⟩
 case round=>
  clear I0 G0 H0;obtain⟨seen,L,IT,G,HB1,O,KL⟩:=hrel;obtain⟨va,vm,vk,rfl⟩:=gL O.out;have HMS:Hid (leftOf es (wr.iterSeen (w.heap.size+1))=leftOf es seen):=by show _=_;unfold World.iterSeen;rw[IT.out]
  have HLN:=hZ KL.len;rcases uR (HP.gr G.out) IT.out (cD _) G.out with⟨h0,hnx⟩|⟨e,he,W2,hnx,hen,hit2,g2,hoth,hsz2⟩
  ·have HA:=hZ (KL.all HP.out h0);have ANY:Hid ((X.any fun x=>sdP s x&&mat ev x.1.f)=(L.map fun x=>x.1.f).any fun f=>mat ev f):=by
    show _=_;rw[eL];simp only[bT,aC,aP];constructor
    ·rintro⟨x,h1,h2,h3⟩;exact⟨_,⟨x,(HA x).2 ⟨h1,h2⟩,rfl⟩,h3⟩
    ·rintro⟨_,⟨x,h1,rfl⟩,h3⟩;exact⟨x,((HA x).1 h1).1,((HA x).1 h1).2,h3⟩
   have FW:Hid (∀x∈L,FiM wr x.2.1 x.1.f):=fun x hx=>((HP.fi x ((HA x).1 hx).1).gr G.out);clear h0 KL HMS HB1 IT HA;obtain⟨va',vk',he',hsh⟩:=gH O.out;(obtain⟨rfl,rfl,rfl⟩:va=va'/\vm=L.length/\vk=vk':=by injection he' with h1 h2 h3;exact⟨h1,h2,h3⟩);clear he';by_cases hL:L=[]
   ·subst hL;have MT:=hZ (Ku ev ad va cap vk wr (HE.gr G.out));go_wp2_with fail;refine MT.mono ?_;rintro e w3 ⟨rfl,g3⟩;have G3:=hZ (Gr.call G.out g3);go_wp2_with fail;go_ret;exact⟨by rw[ANY.out];rfl,G3.out⟩
   ·obtain⟨g,rfl⟩:=hsh (by cases L with|nil=>exact absurd rfl hL|cons a t=>simp);have hlE:=HE.len8;have MT:=hZ (Qe ev (L.map fun x=>x.1.f) ad cap g 0 vk m wr (by unfold maxLen;omega) (Or.inr (HE.gr G.out).at') HE.wf (by have:=HLN.out;rw[aB];omega) (qS O.out) (aAC O.out FW.out) (fun f hf=>by
     obtain⟨x,hx,rfl⟩:=aC.1 hf;have:=(FW x hx).len;unfold maxLen;omega) (fun f hf=>by
     obtain⟨x,hx,rfl⟩:=aC.1 hf;exact(FW x hx).wf) (G.ml HM.out))
    have hme:Ba ev (L.map fun x=>x.1.f)=0:=by
     (have:(L.map fun x=>x.1.f).all gN=true:=by rw[cJ];intro f hf;obtain⟨x,hx,rfl⟩:=aC.1 hf;exact(FW x hx).ok);simp[Ba,HE.ok,this]
    have hmr:Ds ev (L.map fun x=>x.1.f)=nQ ev (L.map fun x=>x.1.f) (L.map fun x=>x.1.f).length:=if_pos hme;have HIT:=hZ (Tv ev (L.map fun x=>x.1.f));have hle:=Mh ev (L.map fun x=>x.1.f) (L.map fun x=>x.1.f).length;rw[hme,hmr,aB] at MT;rw[aB] at HIT hle;have hln:=HLN.out;clear hL hsh hme hmr;(have HBB:Hid (((L.map fun x=>x.1.f).any fun f=>mat ev f)=decide (0<(nQ ev (L.map fun x=>x.1.f) L.length).length)):=by show _=_;rw[eL,<-HIT.out,decide_eq_true_iff]);clear HIT;generalize nQ ev (L.map fun x=>x.1.f) L.length=H at *;go_wp2_with fail;refine MT.mono ?_;rintro e w3 ⟨v3,rfl,g3,ho3⟩;obtain⟨xa,xk,rfl,hxa⟩:=gH ho3;have G3:=hZ (Gr.call G.out g3);clear MT g3 ho3 hxa;go_wp2_with fail;go_ret;exact⟨by rw[ANY.out,HBB.out];rfl,G3.out⟩
  ·obtain⟨x,hx,hk,hv'⟩:=HP.ent (mem_left he).1;rw[hv'] at hnx hen;rw[hk] at hnx hen;unfold hv pk at hnx hen;have IT2:=hZ hit2;have G2:=hZ g2;have B2:Hid (W2.heap[w.heap.size]?=some (.cells #[.bool s.1,.int .i64 s.2] 143 (0,0))):=(hoth _ (by omega)).trans HB1.out;have hW2:w.heap.size+2<=W2.heap.size:=fZ IT2.out;have HNE:Hid (Value.ownBlock (.slice va vm vk)≠some (w.heap.size+1)):=by
    intro h5;rcases O.2 with⟨h6,_⟩|⟨b',cap',cur,h6,_,h7,_⟩
    ·rw[h6] at h5;simp[Value.ownBlock] at h5
    ·rw[h6] at h5;(have:b'=w.heap.size+1:=by simpa[Value.ownBlock] using h5);subst this;rw[IT.out] at h7;cases h7
   have O2:Hid (W2.ownsRow (w.heap.size+1) 73 1 (.slice va vm vk) L.length (pS L)):=by
    obtain⟨q1,q2⟩:=O.out;refine⟨q1,?_⟩;rcases q2 with q2|⟨b',cap',cur,h6,h8,h7,q3⟩
    ·exact Or.inl q2
    ·refine Or.inr ⟨b',cap',cur,h6,h8,?_,q3⟩;rw[hoth b' (fun h9=>HNE (by rw[h6,h9];rfl))];exact h7
   (have NXT:Hid (∀(L':List Hm),Hl X es (sdP s) (seen.push e.born) L'->∀(v':Value)(w':World),w'.heap[w.heap.size+1]?=some (.mapIter (some MB) clock (seen.push e.born) clock)->Gr w w'->w'.heap[w.heap.size]?=some (.cells #[.bool s.1,.int .i64 s.2] 143 (0,0))->w'.ownsRow (w.heap.size+1) 73 1 v' L'.length (pS L') ->(∃(seen:Array Nat)(L:List Hm),Hid (w'.heap[w.heap.size+1]?=some (.mapIter (some MB) clock seen clock))/\Hid (Gr w w')/\Hid (w'.heap[w.heap.size]?=some (.cells #[.bool s.1,.int .i64 s.2] 143 (0,0)))/\Hid (w'.ownsRow (w.heap.size+1) 73 1 v' L.length (pS L))/\Hid (Hl X es (sdP s) seen L)) /\(leftOf es (w'.iterSeen (w.heap.size+1))).size<(leftOf es (wr.iterSeen (w.heap.size+1))).size):=by intro L' hL' v' w' h1 h2 h3 h4;refine⟨⟨_,L',h1,h2,h3,h4,hL'⟩,?_⟩;rw[HMS.out];unfold World.iterSeen;rw[h1];exact left_shrinks es seen e he);have SKIP:=hZ (fun hf=>KL.skip HP.out (mem_left he).1 hx hk hf);have TAKE:=hZ (fun hf=>KL.take HP.out (mem_left he).1 (mem_left he).2 hx hk hf);have GX:=hZ ((Gr.refl W2).alloc (.cells #[.int .i64 x.1.key.1,.int .i64 x.1.key.2,.slice x.2.1 x.1.f.length x.2.2,.int .i64 x.1.fr] 124));have HXB:=hZ (fY W2 (.cells #[.int .i64 x.1.key.1,.int .i64 x.1.key.2,.slice x.2.1 x.1.f.length x.2.2,.int .i64 x.1.fr] 124));clear he hk hx hit2 g2 hoth hsz2 hv' G IT O KL HMS HB1;(have hlt2:w.heap.size<W2.heap.size:=by omega);(have b0:W2.cell? ⟨w.heap.size,0,none⟩=some (.bool s.1):=by rw[cZ B2.out];rfl);(have b1:W2.cell? ⟨w.heap.size,1,none⟩=some (.int .i64 s.2):=by rw[cZ B2.out];rfl);have SD:=hZ (Fh x.1 x.2.1 x.2.2 (W2.alloc (.cells #[.int .i64 x.1.key.1,.int .i64 x.1.key.2,.slice x.2.1 x.1.f.length x.2.2,.int .i64 x.1.fr] 124)));unfold hv at SD;go_wp2_with fail;clear hnx hen b0 b1;generalize hW3:W2.alloc (.cells #[.int .i64 x.1.key.1,.int .i64 x.1.key.2,.slice x.2.1 x.1.f.length x.2.2,.int .i64 x.1.fr] 124)=W3 at *;have B3:=hZ (gK GX.out B2.out);(have b0:W3.cell? ⟨w.heap.size,0,none⟩=some (.bool s.1):=by rw[cZ B3.out];rfl);(have b1:W3.cell? ⟨w.heap.size,1,none⟩=some (.int .i64 s.2):=by rw[cZ B3.out];rfl);(have d0:W3.cell? ⟨W2.heap.size,0,none⟩=some (.int .i64 x.1.key.1):=by rw[cZ HXB.out];rfl);(have d1:W3.cell? ⟨W2.heap.size,1,none⟩=some (.int .i64 x.1.key.2):=by rw[cZ HXB.out];rfl);(have d2:W3.cell? ⟨W2.heap.size,2,none⟩=some (.slice x.2.1 x.1.f.length x.2.2):=by rw[cZ HXB.out];rfl);(have d3:W3.cell? ⟨W2.heap.size,3,none⟩=some (.int .i64 x.1.fr):=by rw[cZ HXB.out];rfl);have SD2:Hid (∀W,W=W3.drew->Calls prog 98 #[.agg #[.int .i64 x.1.key.1,.int .i64 x.1.key.2,.slice x.2.1 x.1.f.length x.2.2,.int .i64 x.1.fr]] W fun e w'=>e=.returned (.agg #[.bool (sd x.1).1,.int .i64 (sd x.1).2])/\Gr W3 w'/\w'.cell? ⟨w.heap.size,0,none⟩=some (.bool s.1)/\w'.cell? ⟨w.heap.size,1,none⟩=some (.int .i64 s.2)):=by intro W hW;subst hW;refine(Fh x.1 x.2.1 x.2.2 W3.drew).mono ?_;rintro e w' ⟨h1,h2⟩;have g:Gr W3 w':=Gr.call (Gr.refl W3).drew h2;have z:=gK g B3.out;exact⟨h1,g,by rw[cZ z];rfl,by rw[cZ z];rfl⟩
   clear SD hW3;by_cases hA:sd x.1=s
   ·have KL2:=hZ (TAKE (by simp[sdP,hA]));rw[hA] at SD2;clear SKIP TAKE;go_region_with(go_at_call 98;refine(SD2 _ rfl).mono ?_;rintro e w4 ⟨rfl,g4,b0',b1'⟩);all_goals
     have GY:=hZ (Gr.call GX.out g4);have XC:=hZ (gK g4 HXB.out);have O4:=hZ (gO O2.out GY.out);have G4:=hZ (Gr.call G2.out GY.out);have hs4:w.heap.size+1<w4.heap.size:=aF (by omega) GY.size;clear g4 b0' b1' b0 b1 d0 d1 d2 d3;(have g2:w4.cell? ⟨W2.heap.size,2,none⟩=some (.slice x.2.1 x.1.f.length x.2.2):=by rw[cZ XC.out];rfl);go_wp2_with(at_builtin;refine wpList_append_own _ rfl _ _ 198 rfl (w.heap.size+1) 73 i0 _ 1 24 underlying198 hi hz0 hz1 hz2 rfl (by decide) _ _ _ rfl (O4.alloc _) ⟨w4.heap.size,0,none⟩ 1 1 [.slice x.2.1 x.1.f.length x.2.2] rfl rfl (World.news_of_block (jN rfl)) ?k2 ?k3 ?k4 ?k5 ?_);case k2=>intro t ht;simp at ht;subst ht;rfl
     case k3=>have:=HLN.out;unfold maxLen;omega
     case k4=>have:=HLN.out;omega
     case k5=>simp;omega
     intro v5 w5 ho5 hg5 _;have low:∀q,Value.ownBlock (.slice va vm vk)=some q->w.heap.size+1<=q:=iC O4.out;have G5:Hid (Gr w w5):=Below.grown (G4.alloc _) hg5 (aA G4.size (by simp)) (fun q hq=>by have:=low q hq;omega);(have I5:Hid (w5.heap[w.heap.size+1]?=some (.mapIter (some MB) clock (seen.push e.born) clock)):=by show _=_;rw[hg5.block _ (by simp;omega) (fun h5=>HNE h5.symm),Below.heap_alloc _ _ _ (by omega),GY.block _ (by omega)];exact IT2.out);(have B5:Hid (w5.heap[w.heap.size]?=some (.cells #[.bool s.1,.int .i64 s.2] 143 (0,0))):=by show _=_;rw[hg5.block _ (by simp;omega) (fun h5=>by have:=low _ h5.symm;omega),Below.heap_alloc _ _ _ (by omega),GY.block _ (by omega)];exact B2.out);(have O5:w5.ownsRow (w.heap.size+1) 73 1 v5 (L++[x]).length (pS (L++[x])):=by rw[Hf,aG];exact ho5);have N1:=hZ (NXT (L++[x]) KL2.out v5 w5 I5.out G5.out B5.out O5);obtain⟨ya,ym,yk,rfl⟩:=gL ho5;clear ho5 hg5 O4 O2 NXT O5 low;go_wp2_with fail;exact N1.out
   ·have SK:=hZ (SKIP (by simp[sdP,hA]));by_cases hB:(sd x.1).1=s.1
    ·have hC:(sd x.1).2≠s.2:=fun e=>hA (Prod.ext hB e);(have hC':((sd x.1).2==s.2)=false:=by simpa using hC);rw[hB] at SD2;clear SKIP TAKE;go_region_with(go_at_call 98;refine(SD2 _ rfl).mono ?_;rintro e w4 ⟨rfl,g4,b0',b1'⟩);all_goals
      have GY:=hZ (Gr.call GX.out g4);have N1:=hZ (NXT L SK.out (.slice va vm vk) w4 ((GY.block _ (by omega)).trans IT2.out) (Gr.call G2.out GY.out) (gK GY.out B2.out) (gO O2.out GY.out));clear NXT g4 b0' b1' b0 b1 d0 d1 d2 d3;go_wp2_with fail;exact⟨⟨_,_,_,_,_,_,_,_,_,_,_,_,_,_,_,N1.1,rfl⟩,N1.2⟩
    ·(have hB':((sd x.1).1==s.1)=false:=by simpa using hB);clear SKIP TAKE;go_region_with(go_at_call 98;refine(SD2 _ rfl).mono ?_;rintro e w4 ⟨rfl,g4,b0',b1'⟩);all_goals
      have GY:=hZ (Gr.call GX.out g4);have N1:=hZ (NXT L SK.out (.slice va vm vk) w4 ((GY.block _ (by omega)).trans IT2.out) (Gr.call G2.out GY.out) (gK GY.out B2.out) (gO O2.out GY.out));clear NXT g4 b0' b1' b0 b1 d0 d1 d2 d3;go_wp2_with fail;exact⟨⟨_,_,_,_,_,_,_,_,_,_,_,_,_,_,_,N1.1,rfl⟩,N1.2⟩
def jH(c:Cl):Pc (List Atr):=⟨c.num,c.at',c.lost,c.box.map (·.1)⟩
structure Gd(T:Tc)(nxt:Nat->Nat->Int)(rank:Nat->Nat->Nat)(home:Int->Nat)(Ks:List Ky)(s:Ts)(cs:List (Pc (List Atr)))(n M:Nat):Prop where
 I:Inv cov T.adj nxt home okF s
 K:Kin Ks s
 W:Wgt cov rank T.nb Ks.length s n
 L:∀c∈cs,0<=c.lost/\c.lost+n<=M/\c.box.length<=16
 le:n<=M
section
variable {T:Tc}{nxt:Nat->Nat->Int}{rank:Nat->Nat->Nat}{home:Int->Nat}{Ks:List Ky}{s:Ts}{cs:List (Pc (List Atr))}{n M:Nat}
theorem Gd.len(G:Gd T nxt rank home Ks s cs n M)(b:Nat):(s.held b).length<=Ks.length:=(G.I.srt b).len (G.K.held b)
theorem Gd.sm(S:Sh T nxt rank)(G:Gd T nxt rank home Ks s cs n M)(hK:Ks.length<=1048576)(hM:M<549755813888):Sm T s:=⟨fun b _=>aA (G.len b) hK,fun a b=>by have:=G.W.len S.S S.Z.inn G.I.nq a b;have:=G.le;omega⟩
theorem Gd.step(S:Sh T nxt rank)(G:Gd T nxt rank home Ks s cs n M){a b:Nat}(ha:T.adj a b=true){m:Ms (List Wnt) (List Atr)}{r:List (Ms (List Wnt) (List Atr))}(hq:s.q a b=m::r):∃n',n'<n/\Gd T nxt rank home Ks (s.nstep cov T.adj mat a b m) (hrs mat (s.held b) a m cs) n' M:=by
 obtain⟨n',h1,h2⟩:=Ra (mt:=mat) Zm S.N S.S S.Z.inn G.I G.len G.W ha hq;refine⟨n',h1,Oi S.N G.I ha hq,vZ G.K hq,h2,fun c hc=>?_,by have:=G.le;omega⟩;unfold hrs at hc;split at hc
 ·rename_i e;obtain⟨d,hd,rfl⟩:=aC.1 hc;have k1:=G.L d hd;have k2:=rY (mt:=mat) (s.held b) (false,(a:Int)) e d;exact⟨by omega,by omega,k2.2.2 k1.2.2⟩
 ·have k1:=G.L c hc;exact⟨k1.1,by omega,k1.2.2⟩
theorem Gd.sub(S:Sh T nxt rank)(G:Gd T nxt rank home Ks s cs n M)(k:Ky)(f:List Wnt)(hf:okF f)(hb:home k.1<T.nb)(hn:∀g∈s.held (home k.1),g.key≠k)(hk:k∈Ks):Gd T nxt rank home Ks (s.turn cov T.adj (home k.1) (ins ⟨k,f, -1⟩ (s.held (home k.1)))) cs (n+T.nb*(Ks.length+1)) (M+T.nb*(Ks.length+1)):=by
 refine⟨Wa S.N G.I k f hf hn,pX G.K (fun x hx=>?_),Vy Zm S.S G.I G.W k f hf hb hn (G.len _),fun c hc=>?_,Nat.add_le_add_right G.le _⟩
 ·rcases iU.1 hx with rfl|⟨hx,_⟩
  ·exact hk
  ·exact G.K.held _ x hx
 ·have k1:=G.L c hc;exact⟨k1.1,by omega,k1.2.2⟩
theorem Gd.uns(S:Sh T nxt rank)(G:Gd T nxt rank home Ks s cs n M){x:Hw}(hb:home x.key.1<T.nb)(hm:x∈s.held (home x.key.1)):Gd T nxt rank home Ks (s.turn cov T.adj (home x.key.1) (del x.key (s.held (home x.key.1)))) cs (n+T.nb*(Ks.length+1)) (M+T.nb*(Ks.length+1)):=by refine⟨Vu S.N G.I x.key,pX G.K (fun y hy=>G.K.held _ y (jO.1 hy).1),Vt Zm S.N S.S G.I G.W hb hm (G.len _),fun c hc=>?_,Nat.add_le_add_right G.le _⟩;have k1:=G.L c hc;exact⟨k1.1,by omega,k1.2.2⟩
theorem Gd.mono(G:Gd T nxt rank home Ks s cs n M){n' M':Nat}(h1:n<=n')(h2:M+n'<=M'+n)(h3:n'<=M'):Gd T nxt rank home Ks s cs n' M':=⟨G.I,G.K,G.W.mono h1,fun c hc=>by have k1:=G.L c hc;exact⟨k1.1,by omega,k1.2.2⟩,h3⟩
end
def Tf(T:Tc)(r:Nat->Rl)(w:World)(cs:List (Pc (List Atr)))(s:Ts):Prop:=∃cls,Tw T r w cls s/\cls.map jH=cs
theorem Tf.gr{r:Nat->Rl}{s:Ts}(h:Tf T r w cs s)(g:Gr w w'):Tf T r w' cs s:=by obtain⟨cls,h1,h2⟩:=h;exact⟨cls,h1.gr g,h2⟩
theorem Tf.b{r:Nat->Rl}{s:Ts}(h:Tf T r w cs s):Tb T r w:=by obtain⟨cls,h1,h2⟩:=h;exact h1.b
theorem Tf.find{r:Nat->Rl}{s:Ts}(h:Tf T r w cs s){c:Pc (List Atr)}(hc:c∈cs):∃cls x,Tw T r w cls s/\cls.map jH=cs/\x∈cls/\jH x=c:=by obtain⟨cls,h1,rfl⟩:=h;obtain⟨x,hx,rfl⟩:=aC.1 hc;exact⟨cls,x,h1,rfl,hx,rfl⟩
theorem Tryz.infoAttrC:(Tryz.prog.info? 86).map (fun i=>(i.zero,i.size,i.bytes))=some (some (.agg #[.string ⟨#[]⟩,.int .i64 0,.int .i64 0,.string ⟨#[]⟩]),4,48):=by kernel_rfl
theorem EvM.len{ad:Option Addr}{l:List Atr}(h:EvM w ad l):1<=l.length/\l.length<=8:=by have:=h.ok;simp only[kZ,aP,decide_eq_true_eq] at this;omega
def Rce(B g n q:Nat)(y:Atr)(j:Nat)(x:Value)(_w:World):Prop:=
 match j with
 |0=>x=.slice (some ⟨g,0,none⟩) n n
 |1=>x=.int .i64 q
 |2=>x=.pointer (some ⟨B,0,none⟩)
 |3=>x=.string y.a
 |4=>x=.string y.a
 |5=>x=.pointer (some ⟨B,1,none⟩)
 |6=>x=.agg #[.int .i64 y.k,.int .i64 y.n,.string y.s]
 |7=>x=.agg #[.int .i64 y.k,.int .i64 y.n,.string y.s]
 |8=>x=.agg #[.string y.a,.int .i64 y.k,.int .i64 y.n,.string y.s]
 |9=>x=.pointer (some ⟨g,q*4,none⟩)
 |_=>True
theorem Rce.st{B g n q:Nat}{y:Atr}(j:Nat)(x:Value)(wa wb:World)(h:Rce B g n q y j x wa):Rce B g n q y j x wb:=by unfold Rce at h ⊢;split<;>first|exact h|trivial
theorem xF(f:List Atr)(ad:Option Addr)(cap:Nat)(w:World)(h:EvM w ad f):Calls prog 52 #[.slice ad f.length cap] w fun e w'=>∃v,e=.returned v/\w'.ownsRow w.heap.size 86 4 v f.length (iK f)/\Gr w w':=by
 obtain⟨i0,hi,hz0,hz1,hz2⟩:=info_parts Tryz.infoAttrC;have HF:=hZ h;have hlen:=h.len;obtain⟨b,off,rfl,hbw,hat⟩:=h.at';have HAT:=hZ hat;clear h hat;go_enter func52,ntmps52;go_wp2_with(at_make;refine wpList_make_full _ rfl _ _ 78 rfl w.heap.size 86 i0 _ 4 underlying78 hi hz0 hz1 _ _ _ _ f.length rfl rfl (by omega) (by omega) ?b2 ?b3 lZ ?_);case b2=>rw[hz2];omega
 case b3=>unfold maxLen;omega
 intro w1 hown1 hgrow1;have G1:Hid (Gr w w1):=Below.grown (Gr.refl w) hgrow1 lZ (fun b hb=>by cases hb);have O1:=hZ hown1;clear hown1 hgrow1;go_wp2_with fail;go_loopw [11] (fun i wr=>∃(q:Nat)(xs:List Value),q<=f.length/\i=.int .i64 q/\Hid (Gr w wr)/\Hid (xs.take (q*4)=iK (f.take q))/\Hid (wr.ownsRow w.heap.size 86 4 (.slice (some ⟨w.heap.size,0,none⟩) f.length f.length) f.length xs)) (fun i _=>f.length-(intOf i).toNat);case atStart=>exact⟨0,_,zZ,rfl,G1,rfl,O1⟩
 case round=>
  obtain⟨q,xs,hq,rfl,G,HX,O⟩:=hrel;clear G1 O1;by_cases hlt:q<f.length
  ·have hxl:xs.length=f.length*4:=O.1;obtain⟨d1,d2,d3,d4⟩:=(HAT.gr G.out hbw) q hlt;have hbw2:b<wr.heap.size:=G.lt hbw;(have okn:lI (aat f q).a=true/\iA (aat f q).k (aat f q).n (aat f q).s=true:=by have h1:=HF.ok;simp only[kZ,aP,cJ] at h1;have h2:=h1.2 q (by simpa using hlt);simp only[nP,aP] at h2;exact⟨h2.1.1,h2.1.2⟩);(have hsa:(aat f q).a.size<=255:=by have:=okn.1;simp only[lI,aP,decide_eq_true_eq] at this;omega);(have hss:(aat f q).s.size<=255:=by have:=oH okn.2;omega);have HSA:=hZ hsa;have HSS:=hZ hss;have WT:=hZ (sE f q hlt);clear hsa hss okn;generalize aat f q=y at *;have HNEW:=fY wr (.cells #[.string y.a,.int .i64 y.k,.int .i64 y.n,.string y.s] 86);have gal:Gr wr (wr.alloc (.cells #[.string y.a,.int .i64 y.k,.int .i64 y.n,.string y.s] 86)):=(Gr.refl wr).alloc _;have HHN:=hZ HNEW;have GAL:=hZ gal;clear HNEW gal;go_wp2_with fail;(have hws:w.heap.size<wr.heap.size:=by obtain⟨r0,rc0⟩:=gQ O.out 0 (by omega);exact dC _ _ rc0);refine oO (c:=16) rfl 10 (by rfl) (Rce wr.heap.size w.heap.size f.length q y) (Efr [.slice (some ⟨b,off,none⟩) f.length cap,undef,.slice none 0 0,.slice (some ⟨w.heap.size,0,none⟩) f.length f.length,.int .i64 q,.pointer (some ⟨wr.heap.size,0,none⟩),.slice (some ⟨b,off,none⟩) f.length cap,.int .i64 f.length,.slice (some ⟨w.heap.size,0,none⟩) f.length f.length,.slice (some ⟨b,off,none⟩) f.length cap,.int .i64 f.length,.int .i64 q,.bool true,.int .i64 q,.pointer (some ⟨b,off+q*4,none⟩),.agg #[.string y.a,.int .i64 y.k,.int .i64 y.n,.string y.s]] [u26,undef] 10) (fun w'=>Gr (wr.alloc (.cells #[.string y.a,.int .i64 y.k,.int .i64 y.n,.string y.s] 86)) w') (fun _ wa wb=>Gr wa wb) (fun a i x hi h=>Efr.put a i x hi h) (fun a h=>by have:=h.sz;simp at this;omega) (fun i wa wb h g=>Gr.call h g) (fun i j x wa wb _ h g=>Rce.st j x wa wb h) ?front ?last ?e0 gZ.drew;case e0=>exact⟨rfl,[u16,u17,u18,u19,u20,u21,u22,u23,u24,u25],rfl,rfl⟩
   case front=>
    intro i o a' w2 ho hi2 hE hW hd K hK;have hA:=gK hW HHN.out;(have c0:w2.cell? ⟨wr.heap.size,0,none⟩=some (.string y.a):=by rw[cZ hA];rfl);(have c1:w2.cell? ⟨wr.heap.size,1,none⟩=some (.int .i64 y.k):=by rw[cZ hA];rfl);(have c2:w2.cell? ⟨wr.heap.size,2,none⟩=some (.int .i64 y.n):=by rw[cZ hA];rfl);(have c3:w2.cell? ⟨wr.heap.size,3,none⟩=some (.string y.s):=by rw[cZ hA];rfl);have t3:a'.tmps[3]?.getD undef=.slice (some ⟨w.heap.size,0,none⟩) f.length f.length:=(evn a' 3).symm.trans (hE.at_ (by simp));have t4:a'.tmps[4]?.getD undef=.int .i64 q:=(evn a' 4).symm.trans (hE.at_ (by simp));have t5:a'.tmps[5]?.getD undef=.pointer (some ⟨wr.heap.size,0,none⟩):=(evn a' 5).symm.trans (hE.at_ (by simp));clear hE hA
    match i,ho,hi2,hd,hK with
    |0,ho,_,hd,hK=>obtain rfl:=oZ ho;unfold Oper.wp;go_simp;exact hK _ _ gZ rfl
    |1,ho,_,hd,hK=>obtain rfl:=oZ ho;unfold Oper.wp;go_simp;exact hK _ _ gZ rfl
    |2,ho,_,hd,hK=>obtain rfl:=oZ ho;unfold Oper.wp;go_simp;exact hK _ _ gZ rfl
    |3,ho,_,hd,hK=>obtain rfl:=oZ ho;have e0:a'.eval (.tmp 18)=.pointer (some ⟨wr.heap.size,0,none⟩):=hd ⟨2,.data⟩ (by simp) rfl;rw[evn] at e0;unfold Oper.wp;go_simp;exact hK _ _ gZ rfl
    |4,ho,_,hd,hK=>obtain rfl:=oZ ho;have e0:a'.eval (.tmp 19)=.string y.a:=hd ⟨3,.data⟩ (by simp) rfl;rw[evn] at e0;unfold Oper.wp;go_simp;refine(La w2 y.a w2 HSA.out gZ).mono ?_;rintro e w3 ⟨rfl,g3⟩;go_simp;exact hK _ _ g3 rfl
    |5,ho,_,hd,hK=>obtain rfl:=oZ ho;unfold Oper.wp;go_simp;exact hK _ _ gZ rfl
    |6,ho,_,hd,hK=>obtain rfl:=oZ ho;have e0:a'.eval (.tmp 21)=.pointer (some ⟨wr.heap.size,1,none⟩):=hd ⟨5,.data⟩ (by simp) rfl;rw[evn] at e0;unfold Oper.wp;go_simp;exact hK _ _ gZ rfl
    |7,ho,_,hd,hK=>obtain rfl:=oZ ho;have e0:a'.eval (.tmp 22)=.agg #[.int .i64 y.k,.int .i64 y.n,.string y.s]:=hd ⟨6,.data⟩ (by simp) rfl;rw[evn] at e0;unfold Oper.wp;go_simp;refine(rF y.k y.n y.s w2 HSS.out).mono ?_;rintro e w3 ⟨rfl,g3⟩;go_simp;exact hK _ _ g3 rfl
    |8,ho,_,hd,hK=>obtain rfl:=oZ ho;have e0:a'.eval (.tmp 20)=.string y.a:=hd ⟨4,.data⟩ (by simp) rfl;have e2:a'.eval (.tmp 23)=.agg #[.int .i64 y.k,.int .i64 y.n,.string y.s]:=hd ⟨7,.data⟩ (by simp) rfl;rw[evn] at e0 e2;unfold Oper.wp;go_simp;exact hK _ _ gZ rfl
    |9,ho,_,hd,hK=>obtain rfl:=oZ ho;have e0:a'.eval (.tmp 16)=.slice (some ⟨w.heap.size,0,none⟩) f.length f.length:=hd ⟨0,.data⟩ (by simp) rfl;have e1:a'.eval (.tmp 17)=.int .i64 q:=hd ⟨1,.data⟩ (by simp) rfl;rw[evn] at e0 e1;unfold Oper.wp;go_simp;exact hK _ _ gZ rfl
    |k+10,_,hi2,_,_=>exact absurd hi2 (by omega)
   case last=>
    intro o a' w2 ho hE hW hd K hK;obtain rfl:=oZ ho;have e0:a'.eval (.tmp 25)=.pointer (some ⟨w.heap.size,q*4,none⟩):=hd 9 (by omega);have e1:a'.eval (.tmp 24)=.agg #[.string y.a,.int .i64 y.k,.int .i64 y.n,.string y.s]:=hd 8 (by omega);rw[evn] at e0 e1;have g5:=Gr.call GAL.out hW;have O5:=hZ (gO O.out g5);have G5:=hZ (Gr.call G.out g5);obtain⟨r0,rc0⟩:=gQ O5.out (q*4) (by omega);have rf0:=aK O5.out (q*4);obtain⟨r1,rc1⟩:=gQ O5.out (q*4+1) (by omega);have rf1:=aK O5.out (q*4+1);obtain⟨r2,rc2⟩:=gQ O5.out (q*4+1+1) (by omega);have rf2:=aK O5.out (q*4+1+1);obtain⟨r3,rc3⟩:=gQ O5.out (q*4+1+1+1) (by omega);have rf3:=aK O5.out (q*4+1+1+1);have O6:=hZ (sR O5.out (q*4) (.string y.a) (.int .i64 y.k) (.int .i64 y.n) (.string y.s));have G6:=hZ (xW lZ G5.out (.string y.a) (.int .i64 y.k) (.int .i64 y.n) (.string y.s) (k:=q*4));(have X6:Hid ((set4 xs (q*4) (.string y.a) (.int .i64 y.k) (.int .i64 y.n) (.string y.s)).take ((q+1)*4)=iK (f.take (q+1))):=by show _=_;rw[show(q+1)*4=q*4+4 by omega,Li _ _ _ _ _ _ (by omega),HX.out,WT.out]);obtain⟨z,hz,ht⟩:=hE.ts;have hdf:=hE.df;clear O5 G5 O G HX g5 hd hE hW
    match z,hz with
    |[z0,z1,z2,z3,z4,z5,z6,z7,z8,z9],_=>
    obtain⟨tm,df⟩:=a';simp only at ht hdf;subst ht;subst hdf;obtain rfl:z9=.pointer (some ⟨w.heap.size,q*4,none⟩):=e0;obtain rfl:z8=.agg #[.string y.a,.int .i64 y.k,.int .i64 y.n,.string y.s]:=e1;unfold Oper.wp;go_simp;refine hK _ _ ?_;go_wp2_with fail;exact⟨⟨q+1,_,hlt,by simp,G6,X6,O6⟩,gD _ _ hlt⟩
  ·(have hql:q=f.length:=by omega);have OF:Hid (wr.ownsRow w.heap.size 86 4 (.slice (some ⟨w.heap.size,0,none⟩) f.length f.length) f.length (iK f)):=by
    (have e:xs=iK f:=by have h1:=HX.out;have h2:=O.1;rw[hql,aV (by omega),aV lZ] at h1;exact h1);rw[<-e];exact O.out
   clear O HX;go_wp2_with fail;go_ret;exact⟨_,rfl,OF.out,G.out⟩
open Go.Conc
section
variable {P:Program}{Q:Exit->Act->World->Prop}{a:Act}{w:World}
def wpN(P:Program)(c:Code)(Q:Exit->Act->World->Prop)(a:Act)(w:World):Prop:=∀(b:Frame)(k:List Item)(cs:List Frame),b.kind≠.early->∃e a' w',Q e a' w'/\Arrives P (lone (b.at a (.code c::k)) cs w) b k cs e a' w'
theorem Qj{c:Code}(h:c.wp P Q a w):wpN P c Q a w:=fun b k cs _=>h b k cs
theorem Ev{y:Code}(h:wpN P x (Exit.then (wpN P y Q) Q) a w):wpN P (Code.seq x y) Q a w:=by
 intro b k cs hb;obtain⟨e,a₁,w₁,hq,harr⟩:=h b (.code y::k) cs hb;cases e with
 |normal=>obtain⟨e₂,a₂,w₂,hq₂,harr₂⟩:=hq b k cs hb;exact⟨e₂,a₂,w₂,hq₂,.of_steps (.head step_seq harr) harr₂⟩
 |exit id=>exact⟨_,a₁,w₁,hq,.of_steps (.one step_seq) (.pass (x:=.code y) rfl (fun _ _=>.inl (by simp)) harr)⟩
 |goto l=>exact⟨_,a₁,w₁,hq,.of_steps (.one step_seq) (.pass (x:=.code y) rfl (fun _ _=>.inl (by simp)) harr)⟩
 |ret=>exact⟨_,a₁,w₁,hq,.of_steps (.one step_seq) (.pass (x:=.code y) rfl (fun _ _=>.inl (by simp)) harr)⟩
 |panic ch=>exact⟨_,a₁,w₁,hq,.of_steps (.one step_seq) (.pass (x:=.code y) rfl (fun _ _=>.inl (by simp)) harr)⟩
 |outgrown=>exact⟨_,a₁,w₁,hq,.of_steps (.one step_seq) (.pass (x:=.code y) rfl (fun _ _=>.inl (by simp)) harr)⟩
theorem tY{y:Code}(h:∀K:Act->World->Prop,(∀a w,wpN P y Q a w->K a w)->x.wp P (Exit.then K Q) a w):wpN P (Code.seq x y) Q a w:=Ev (Qj (h _ fun _ _ h=>h))
theorem yB{y:Code}(h:∀K:Act->World->Prop,(∀a w,y.wp P Q a w->K a w)->wpN P x (Exit.then K Q) a w):wpN P (Code.seq x y) Q a w:=by
 refine Ev (fun b k cs hb=>?_);obtain⟨e,a',w',hq,harr⟩:=h (fun a w=>y.wp P Q a w) (fun _ _ h=>h) b k cs hb;refine⟨e,a',w',?_,harr⟩;cases e with
 |normal=>exact Qj hq
 |exit id=>exact hq
 |goto l=>exact hq
 |ret=>exact hq
 |panic ch=>exact hq
 |outgrown=>exact hq
theorem Qk{c:Code}(I:Nat->Act->World->Prop)(n₀:Nat)(h₀:I n₀ a w)(round:∀n a w,I n a w->wpN P c (Exit.then (fun a' w'=>∃n',n'<n/\I n' a' w') Q) a w):wpN P (Code.loop c) Q a w:=by
 intro b k cs hb;have key:∀n a w,I n a w->∃e a' w',Q e a' w'/\Arrives P (lone (b.at a (.code c::.inLoop c::k)) cs w) b k cs e a' w':=by
  intro n
  induction n using Nat.strongRecOn with
  |_ n ih=>
   intro a w hI;obtain⟨e,a₁,w₁,hq,harr⟩:=round n a w hI b (.inLoop c::k) cs hb;cases e with
   |normal=>obtain⟨n',hlt,hI₁⟩:=hq;obtain⟨e₂,a₂,w₂,hq₂,harr₂⟩:=ih n' hlt a₁ w₁ hI₁;exact⟨e₂,a₂,w₂,hq₂,.of_steps (Steps.trans harr (.one step_inLoop)) harr₂⟩
   |exit id=>exact⟨_,a₁,w₁,hq,.pass (x:=.inLoop c) rfl (fun _ _=>.inl (by simp)) harr⟩
   |goto l=>exact⟨_,a₁,w₁,hq,.pass (x:=.inLoop c) rfl (fun _ _=>.inl (by simp)) harr⟩
   |ret=>exact⟨_,a₁,w₁,hq,.pass (x:=.inLoop c) rfl (fun _ _=>.inl (by simp)) harr⟩
   |panic ch=>exact⟨_,a₁,w₁,hq,.pass (x:=.inLoop c) rfl (fun _ _=>.inl (by simp)) harr⟩
   |outgrown=>exact⟨_,a₁,w₁,hq,.pass (x:=.inLoop c) rfl (fun _ _=>.inl (by simp)) harr⟩
 obtain⟨e,a',w',hq,harr⟩:=key _ a w h₀;exact⟨e,a',w',hq,.of_steps (.one step_loop) harr⟩
theorem vJ{f:FuncId}{fn:Func}{c:Code}{args:Array Value}{R:Ending->World->Prop}(hf:P.funcs[f]?=some fn)(hb:fn.body=some c)(h:wpN P c (bodyPost P fn R) { tmps:=args++Array.replicate (fn.ntmps-args.size) undef,defers:=[] } w):Calls P f args w R:=by
 intro cs;let b:Frame:={ (default:Frame) with fn:=f,kind:=.normal };have henter:Frame.enter P f args .normal=b.at { tmps:=args++Array.replicate (fn.ntmps-args.size) undef,defers:=[] } [.code c]:=by simp[Frame.enter,Frame.at,hf,hb,b]
 obtain⟨e,a',w',hq,harr⟩:=h b [] cs (by simp[b]);rw[<-henter] at harr;cases e with
 |normal=>obtain⟨hd,v,hr,hR⟩:=hq;exact⟨.returned v,w',_,hR,Steps.trans harr (.one step_end),rfl,rfl,hd,rfl,fn,hf,hr⟩
 |ret=>obtain⟨hd,v,hr,hR⟩:=hq;obtain⟨todo,hs⟩:=harr;exact⟨.returned v,w',_,hR,hs,rfl,rfl,hd,rfl,fn,hf,hr⟩
 |panic chain=>obtain⟨hd,hR⟩:=hq;obtain⟨todo,hs⟩:=harr;exact⟨.panicked chain,w',_,hR,hs,rfl,rfl,hd,fn,hf⟩
 |outgrown=>exact⟨.outgrown,w',b,hq,harr.resolve_left (by simp[b]),rfl,trivial⟩
 |exit id=>exact hq.elim
 |goto l=>exact hq.elim
theorem tZ{id:Nat}{o:Oper}{l:List Oper}{v:Value}(_hg:o.guard=none)(hs:∀(b:Frame)(k:List Item)(cs:List Frame),b.kind≠.early->step P (lone (b.at a (.inRegion (o::l).toArray (0::List.range' 1 l.length)::k)) cs w)=.next (lone (b.at (a.put o.dst v) (.inRegion (o::l).toArray (List.range' 1 l.length)::k)) cs w'))(h:wpList P (o::l).toArray Q l (a.put o.dst v) w'):wpN P (.region id (o::l).toArray false) Q a w:=by
 intro b k cs hb;rw[<-wpOps_eq_wpList l 1 (by intro j;simp[Nat.add_comm 1 j])] at h;obtain⟨e,a',w'',hq,harr⟩:=wp_ops _ _ _ h b k cs;refine⟨e,a',w'',hq,.of_steps (.head step_region ?_) harr⟩;have hr:List.range (o::l).toArray.size=0::List.range' 1 l.length:=by simp[List.range_eq_range',List.range'_succ]
 rw[hr];exact .one (hs b k cs hb)
theorem pA{o:Oper}{ops:Array Oper}{t:Array Value}(hg:o.guard=none):Region.wanted o (yielded ops t)=true:=by simp[Region.wanted,hg]
theorem As{o:Oper}{l:List Oper}{cap s r:Nat}{v:Value}(hg:o.guard=none)(hr:(execOp a.eval o).run P w=.ok (.comm #[scase c v z] false .select) w)(hc:w.heap[c]?=some (.chan cap buf false s r tm))(hroom:buf.size<cap)(b:Frame)(k:List Item)(cs:List Frame)(hb:b.kind≠.early):step P (lone (b.at a (.inRegion (o::l).toArray (0::List.range' 1 l.length)::k)) cs w)=.next (lone (b.at (a.put o.dst (.tuple #[goInt 0,.bool false])) (.inRegion (o::l).toArray (List.range' 1 l.length)::k)) cs (w.setChan c cap (buf.push v) false (s+1) r tm)):=by rw[lone_eq_solo,step_lone_select_send_room (stepG_comm (by simp) (pA hg) hb hr) hc hroom,lone_eq_solo];congr 3;rw[Frame.finish_at];rfl
theorem At{o:Oper}{l:List Oper}{cap s r:Nat}{v:Value}(hg:o.guard=none)(hr:(execOp a.eval o).run P w=.ok (.comm #[scase c v z] false .select) w)(hc:w.heap[c]?=some (.chan cap buf false s r tm))(hfull:cap<=buf.size)(b:Frame)(k:List Item)(cs:List Frame)(hb:b.kind≠.early):step P (lone (b.at a (.inRegion (o::l).toArray (0::List.range' 1 l.length)::k)) cs w)=.next (lone (b.at (a.put o.dst (.tuple #[goInt (-1),.bool false])) (.inRegion (o::l).toArray (List.range' 1 l.length)::k)) cs w):=by rw[lone_eq_solo,step_lone_select_send_full (stepG_comm (by simp) (pA hg) hb hr) hc hfull,lone_eq_solo];congr 3;rw[Frame.finish_at];rfl
theorem Ru{o:Oper}{l:List Oper}{cap s r:Nat}{closed:Bool}(hg:o.guard=none)(hr:(execOp a.eval o).run P w=.ok (.comm #[rcase c z] true (.recv true)) w)(hc:w.heap[c]?=some (.chan cap buf closed s r tm))(hsome:0<buf.size)(b:Frame)(k:List Item)(cs:List Frame)(hb:b.kind≠.early):step P (lone (b.at a (.inRegion (o::l).toArray (0::List.range' 1 l.length)::k)) cs w)=.next (lone (b.at (a.put o.dst (.tuple #[buf.getD 0 undef,.bool true])) (.inRegion (o::l).toArray (List.range' 1 l.length)::k)) cs (w.setChan c cap (buf.extract 1 buf.size) closed s (r+1) tm)):=by rw[lone_eq_solo,step_lone_recv_buf true (stepG_comm (by simp) (pA hg) hb hr) hc hsome,lone_eq_solo];congr 3;rw[Frame.finish_at];rfl
theorem Nv{o:Oper}{l:List Oper}{cap s r:Nat}(hg:o.guard=none)(hr:(execOp a.eval o).run P w=.ok (.comm #[rcase c z] true (.recv true)) w)(hc:w.heap[c]?=some (.chan cap #[] true s r tm))(b:Frame)(k:List Item)(cs:List Frame)(hb:b.kind≠.early):step P (lone (b.at a (.inRegion (o::l).toArray (0::List.range' 1 l.length)::k)) cs w)=.next (lone (b.at (a.put o.dst (.tuple #[z,.bool false])) (.inRegion (o::l).toArray (List.range' 1 l.length)::k)) cs w):=by rw[lone_eq_solo,step_lone_recv_shut true (stepG_comm (by simp) (pA hg) hb hr) hc,lone_eq_solo];congr 3;rw[Frame.finish_at];rfl
end
end Go.Proofs.YtecnfgikbmcgoabGreat
