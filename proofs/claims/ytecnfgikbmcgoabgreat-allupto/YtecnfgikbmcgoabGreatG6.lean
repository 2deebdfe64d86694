import Derived.Test.YtecnfgikbmcgoabGreatG5
import Derived.Shelf.SlSortCmp.WholeK
set_option maxHeartbeats 8000000
set_option maxRecDepth 100000
namespace Go.Proofs.YtecnfgikbmcgoabGreat
open Go.Proofs.Tryz
open Go.RowKit
open Go.Maps (Keyed)
open Go.ChangeMaps (setBlock)
variable {T:TypeId}{clock:Nat}{es:Array MapEntry}{w w':World}
abbrev Hm:=Hw×Option Addr×Nat
def mv(x:Hm):Value×Value:=(pk x.1.key,.agg (hv x.1 x.2.1 x.2.2))
structure Hp(w:World)(MB:Nat)(X:List Hm)(es:Array MapEntry)(clock:Nat):Prop where
 mp:Mp prog 97 w MB (X.map mv) es clock
 fi:∀x∈X,FiM w x.2.1 x.1.f
variable {X:List Hm}
theorem Hp.gr{MB:Nat}(h:Hp w MB X es clock)(g:Gr w w'):Hp w' MB X es clock:=⟨h.mp.kept (g.block MB h.mp.lt),fun x hx=>(h.fi x hx).gr g⟩
theorem Hp.ent{MB:Nat}(h:Hp w MB X es clock){e:MapEntry}(he:e∈es.toList):∃x∈X,e.key=pk x.1.key/\e.val=.agg (hv x.1 x.2.1 x.2.2):=by obtain⟨x,hx,hxe⟩:=aC.1 (h.mp.mem he);injection hxe with h1 h2;exact⟨x,hx,h1.symm,h2.symm⟩
variable {x:Hm}
theorem Hp.all{MB:Nat}(h:Hp w MB X es clock)(hx:x∈X):∃e∈es.toList,e.key=pk x.1.key/\e.val=.agg (hv x.1 x.2.1 x.2.2):=by
 have:mv x∈es.toList.map (fun e=>(e.key,e.val)):=by rw[h.mp.ent];exact aC.2 ⟨x,hx,rfl⟩
 obtain⟨e,he,hee⟩:=aC.1 this;injection hee with h1 h2;exact⟨e,he,h1,h2⟩
theorem vD{α β:Type}{f:α->β}{l:List α}(h:(l.map f).Nodup){x y:α}(hx:x∈l)(hy:y∈l)(e:f x=f y):x=y:=by
 induction l with
 |nil=>cases hx
 |cons a t ih=>
  simp only[bH,fB] at h;rcases aN.1 hx with rfl|hx'
  ·rcases aN.1 hy with rfl|hy'
   ·rfl
   ·exact absurd (aC.2 ⟨y,hy',e.symm⟩) h.1
  ·rcases aN.1 hy with rfl|hy'
   ·exact absurd (aC.2 ⟨x,hx',e⟩) h.1
   ·exact ih h.2 hx' hy'
theorem Hp.inj{MB:Nat}(h:Hp w MB X es clock){y:Hm}(hx:x∈X)(hy:y∈X)(e:pk x.1.key=pk y.1.key):x=y:=by have hd:=h.mp.nod;rw[bV] at hd;exact vD hd hx hy e
theorem Gv{B:Nat}{o:Obj}(h:Gr w w')(hB:w.heap.size<=B):Gr w (setBlock w' B o):=⟨h.os,h.tape,h.output,by simp only[setBlock];simpa using h.size,fun k hk=>by rw[gR (by omega)];exact h.block k hk⟩
theorem uR{wr:World}{IT MB:Nat}{seen:Array Nat}(h:Hp wr MB X es clock)(hit:wr.heap[IT]?=some (.mapIter (some MB) clock seen clock))(hI:w.heap.size<=IT)(g:Gr w wr):((leftOf es seen).size=0/\∀ty,(Instr.next (.pointer (some ⟨IT,0,none⟩)) false ty).run prog wr=.ok (.tuple #[.bool false]) wr) \/∃e∈(leftOf es seen).toList,∃W2:World,(∀ty,(Instr.next (.pointer (some ⟨IT,0,none⟩)) false ty).run prog wr=.ok (.tuple #[.bool true,e.key,e.val]) W2)/\(Instr.entry (.pointer (some ⟨IT,0,none⟩))).run prog W2=.ok (.tuple #[e.key,e.val]) W2 /\W2.heap[IT]?=some (.mapIter (some MB) clock (seen.push e.born) clock)/\Gr w W2/\(∀k,k≠IT->W2.heap[k]?=wr.heap[k]?)/\W2.heap.size=wr.heap.size:=by
 rcases run_next_at (P:=prog) wr 0 IT MB clock clock seen es clock hit h.mp.blk h.mp.brn lZ with⟨h0,hr⟩|⟨e,he,w1,hw1,hr⟩
 ·exact Or.inl ⟨h0,fun _=>hr⟩
 ·have hne:MB≠IT:=by intro e';have:=h.mp.blk;rw[e',hit] at this;cases this
  have hh:w1.heap=wr.heap:=by rcases hw1 with rfl|rfl<;>rfl
  have hg1:Gr w w1:=by
   rcases hw1 with rfl|rfl
   ·exact g
   ·exact g.drew
  have hit1:w1.heap[IT]?=some (.mapIter (some MB) clock seen clock):=by rw[hh];exact hit
  refine Or.inr ⟨e,he,setBlock w1 IT (.mapIter (some MB) clock (seen.push e.born) clock),fun _=>hr,?_,jR hit1,Gv hg1 hI,fun k hk=>by rw[gR hk,hh],by simp[setBlock,hh]⟩;refine run_entry_at _ IT MB clock seen es clock e (jR hit1) ?_ (mem_left he).1 h.mp.bnd;rw[gR hne,hh];exact h.mp.blk
theorem zU(TB HB hoff nb hcap b MB:Nat)(n:Int)(h:Hw)(a':Option Addr)(c':Nat)(X:List Hm)(es:Array MapEntry)(clock:Nat)(m:Int)(w:World)(c0:w.cell? ⟨TB,0,none⟩=some (.slice (some ⟨HB,hoff,none⟩) nb hcap))(cb:w.cell? ⟨HB,hoff+b,none⟩=some (.map (some MB)))(hb:b<nb)(hTB:TB<w.heap.size)(hHB:HB<w.heap.size)(hp:Hp w MB X es clock)(hh:FiM w a' h.f)(hM:Ml m w):Calls prog 72 #[.pointer (some ⟨TB,0,none⟩),.int .i64 b,.int .i64 n,.agg (hv h a' c')] w fun e w'=>e=.returned (.bool (isT cov (X.map (·.1)) n h))/\Gr w w':=by
 have HP:=hZ hp;have HH:=hZ hh;have HM:=hZ hM;clear hp hh hM;unfold hv;have ga:Gr w (w.alloc (.cells #[.int .i64 h.key.1,.int .i64 h.key.2,.slice a' h.f.length c',.int .i64 h.fr] 124)):=(Gr.refl w).alloc _;have hrg:=run_range_map (P:=prog) (w.alloc (.cells #[.int .i64 h.key.1,.int .i64 h.key.2,.slice a' h.f.length c',.int .i64 h.fr] 124)) 111 97 124 MB es clock underlying111 (HP.gr ga).mp.blk;have hsz:(w.alloc (.cells #[.int .i64 h.key.1,.int .i64 h.key.2,.slice a' h.f.length c',.int .i64 h.fr] 124)).heap.size=w.heap.size+1:=by simp
 rw[hsz] at hrg;have GA:=hZ ga;clear ga hsz;go_enter func72,ntmps72;go_wp2_with fail;have H0:=hZ (gK (gZ.alloc (.mapIter (some MB) clock #[] clock)) (fY w (.cells #[.int .i64 h.key.1,.int .i64 h.key.2,.slice a' h.f.length c',.int .i64 h.fr] 124)));have I0:Hid (((w.alloc (.cells #[.int .i64 h.key.1,.int .i64 h.key.2,.slice a' h.f.length c',.int .i64 h.fr] 124)).alloc (.mapIter (some MB) clock #[] clock)).heap[w.heap.size+1]?=some (.mapIter (some MB) clock #[] clock)):=by have:=fY (w.alloc (.cells #[.int .i64 h.key.1,.int .i64 h.key.2,.slice a' h.f.length c',.int .i64 h.fr] 124)) (.mapIter (some MB) clock #[] clock);rw[show(w.alloc (.cells #[.int .i64 h.key.1,.int .i64 h.key.2,.slice a' h.f.length c',.int .i64 h.fr] 124)).heap.size=w.heap.size+1 by simp] at this;exact this
 have G0:=hZ (GA.alloc (.mapIter (some MB) clock #[] clock));clear hrg GA c0 cb;go_loopw [] (fun wr=>∃seen:Array Nat,Hid (wr.heap[w.heap.size+1]?=some (.mapIter (some MB) clock seen clock))/\Hid (Gr w wr)/\Hid (wr.heap[w.heap.size]?=some (.cells #[.int .i64 h.key.1,.int .i64 h.key.2,.slice a' h.f.length c',.int .i64 h.fr] 124 (0,0))) /\Hid (∀e∈es.toList,seen.contains e.born=true->∀x∈X,e.key=pk x.1.key->x.1.fr≠n->iW cov x.1 h=false)) (fun wr=>(leftOf es (wr.iterSeen (w.heap.size+1))).size);case atStart=>exact⟨#[],I0,G0,H0,fun e _ hc=>by simp at hc⟩
 case round=>
  clear I0 G0 H0;obtain⟨seen,IT,G,HB1,NO⟩:=hrel;have hms:leftOf es (wr.iterSeen (w.heap.size+1))=leftOf es seen:=by unfold World.iterSeen;rw[IT.out]
  have HMS:=hZ hms;clear hms;rcases uR (HP.gr G.out) IT (cD _) G.out with⟨h0,hnx⟩|⟨e,he,W2,hnx,hen,hit2,g2,hoth,hsz2⟩
  ·(have HT:Hid (isT cov (X.map (·.1)) n h=true):=by show _=_;rw[nV];intro g hg hgn;obtain⟨x,hx,rfl⟩:=aC.1 hg;obtain⟨e,he,h1,_⟩:=HP.all hx;exact NO e he (all_seen es seen h0 e he) x hx h1 hgn);clear h0;go_wp2_with fail;go_ret;exact⟨by rw[HT.out];rfl,G.out⟩
  ·obtain⟨x,hx,hk,hv'⟩:=HP.ent (mem_left he).1;rw[hv'] at hnx hen;rw[hk] at hnx hen;unfold hv pk at hnx hen;have HE:=hZ he;have HK:=hZ hk;have HX:=hZ hx;have IT2:=hZ hit2;have G2:=hZ g2;have B2:Hid (W2.heap[w.heap.size]?=some (.cells #[.int .i64 h.key.1,.int .i64 h.key.2,.slice a' h.f.length c',.int .i64 h.fr] 124 (0,0))):=(hoth _ (by omega)).trans HB1.out;have F2:=hZ ((HP.fi x hx).gr g2);have HH2:=hZ (HH.gr g2);have hW2:w.heap.size+2<=W2.heap.size:=fZ IT2.out;clear he hk hx hit2 g2 hoth hsz2 hv' G IT HB1;have gx:Gr W2 (W2.alloc (.cells #[.int .i64 x.1.key.1,.int .i64 x.1.key.2,.slice x.2.1 x.1.f.length x.2.2,.int .i64 x.1.fr] 124)):=(Gr.refl W2).alloc _;have GX:=hZ gx;clear gx;(have b0:W2.cell? ⟨w.heap.size,0,none⟩=some (.int .i64 h.key.1):=by rw[cZ B2.out];rfl);(have b1:W2.cell? ⟨w.heap.size,1,none⟩=some (.int .i64 h.key.2):=by rw[cZ B2.out];rfl);(have b2:W2.cell? ⟨w.heap.size,2,none⟩=some (.slice a' h.f.length c'):=by rw[cZ B2.out];rfl);(have b3:W2.cell? ⟨w.heap.size,3,none⟩=some (.int .i64 h.fr):=by rw[cZ B2.out];rfl);(have hlt2:w.heap.size<W2.heap.size:=by omega);have NXT:Hid ((x.1.fr≠n->iW cov x.1 h=false)->∀w',Gr W2 w'->(∃seen:Array Nat,Hid (w'.heap[w.heap.size+1]?=some (.mapIter (some MB) clock seen clock))/\Hid (Gr w w')/\Hid (w'.heap[w.heap.size]?=some (.cells #[.int .i64 h.key.1,.int .i64 h.key.2,.slice a' h.f.length c',.int .i64 h.fr] 124 (0,0))) /\Hid (∀e∈es.toList,seen.contains e.born=true->∀x∈X,e.key=pk x.1.key->x.1.fr≠n->iW cov x.1 h=false))/\(leftOf es (w'.iterSeen (w.heap.size+1))).size<(leftOf es (wr.iterSeen (w.heap.size+1))).size):=by
    intro hno w' g';have hi:w'.heap[w.heap.size+1]?=some (.mapIter (some MB) clock (seen.push e.born) clock):=(g'.block _ (by omega)).trans IT2.out;refine⟨⟨seen.push e.born,hi,Gr.call G2 g',gK g' B2.out,?_⟩,?_⟩
    ·intro e2 he2 hc y hy hky hyn;rw[contains_push] at hc;rcases cN _ _▸hc with h1|h1
     ·exact NO e2 he2 h1 y hy hky hyn
     ·have hee:e2=e:=born_inj HP.mp.bnd he2 (mem_left HE.out).1 (beq_iff_eq.1 h1);subst hee;have hkk:pk y.1.key=pk x.1.key:=hky.symm.trans HK.out;have hyx:y=x:=HP.inj hy HX hkk;subst hyx;exact hno hyn
    ·rw[HMS.out];unfold World.iterSeen;rw[hi];exact left_shrinks es seen e HE.out
   by_cases hn:x.1.fr=n
   ·(have hn':(x.1.fr==n)=true:=by simpa using hn);have N1:=hZ (NXT (fun h=>absurd hn h) _ GX.out);clear NXT;rw[hn] at N1;go_wp2_with fail;exact N1.out
   ·(have hn':(x.1.fr==n)=false:=by simpa using hn);go_wp2_with fail;refine(Cn x.1 h x.2.1 a' x.2.2 c' m _ (F2.gr GX.out) (HH2.gr GX.out) ((Gr.call G2 GX.out).ml HM.out)).mono ?_;cases hhd:iW cov x.1 h with
    |true=>
     rintro e' w3 ⟨rfl,g3⟩;have HT:Hid (isT cov (X.map (·.1)) n h=false):=by
      show _=_;cases ht:isT cov (X.map (·.1)) n h with
      |false=>rfl
      |true=>have:=nV.1 ht x.1 (aC.2 ⟨x,HX.out,rfl⟩) hn;rw[hhd] at this;cases this
     have G3:=hZ (Gr.call (Gr.call G2 GX.out) g3);clear NXT g3;go_wp2_with fail;go_ret;exact⟨by rw[HT.out];rfl,G3.out⟩
    |false=>rintro e' w3 ⟨rfl,g3⟩;have N1:=hZ (NXT (fun _=>hhd) _ (Gr.call GX g3));clear NXT g3;go_wp2_with fail;exact N1.out
theorem Tryz.infoIntQ:(Tryz.prog.info? 3).map (fun i=>(i.zero,i.size,i.bytes))=some (some (.int .i64 0),1,8):=by kernel_rfl
theorem Tryz.zeroQ(w:World):(zeroValue 112).run prog w=.ok (.slice none 0 0) w:=Tryz.zeroValue112 w
theorem wU(TB LB:Nat)(k:Ky)(m:List (Value×Value))(es:Array MapEntry)(clock:Nat)(r:Bool)(w:World)(h1:I64 k.1)(h2:I64 k.2)(c2:w.cell? ⟨TB,2,none⟩=some (.map (some LB)))(hm:Mp prog 30 w LB m es clock)(hr:r=true↔∃v,(pk k,v)∈m):Calls prog 90 #[.pointer (some ⟨TB,0,none⟩),.int .i64 k.1,.int .i64 k.2] w fun e w'=>e=.returned (.bool r)/\w'=w:=by
 obtain⟨l,hk⟩:=Bc k h1 h2;cases r with
 |true=>obtain⟨v,hv⟩:=hr.1 rfl;have hlk:=Mp.look_yes Tryz.keyedE underlying107 hm hk hv true;unfold pk at hlk;clear hm hr hv hk h1 h2;go_enter func90,ntmps90;go_wp2_with fail;go_ret;exact⟨rfl,rfl⟩
 |false=>
  have hno:∀v,(pk k,v)∉m:=fun v hv=>by have:=hr.2 ⟨v,hv⟩;cases this
  have hlk:=Mp.look_no Tryz.keyedE underlying107 hm hk hno Tryz.zeroQ true;unfold pk at hlk;clear hm hr hno hk h1 h2;go_enter func90,ntmps90;go_wp2_with fail;go_ret;exact⟨rfl,rfl⟩
def nbs(adj:Nat->Nat->Bool)(nb b:Nat)(k:Nat):List Nat:=(List.range k).filter fun n=>n<nb&&adj b n
theorem Lq{adj:Nat->Nat->Bool}{nb b k:Nat}(hk:k<nb)(h:adj b k=true):nbs adj nb b (k+1)=nbs adj nb b k++[k]:=by simp[nbs,List.range_succ,List.filter_append,hk,h]
theorem Sq{adj:Nat->Nat->Bool}{nb b k:Nat}(h:adj b k=false):nbs adj nb b (k+1)=nbs adj nb b k:=by simp[nbs,List.range_succ,List.filter_append,h]
theorem wA(adj:Nat->Nat->Bool)(nb b k:Nat):(nbs adj nb b k).length<=k:=by have:=aX (fun n=>decide (n<nb)&&adj b n) (List.range k);simpa[nbs] using this
structure Lk(adj:Nat->Nat->Bool)(nb:Nat)(m:List (Value×Value)):Prop where
 iff:∀a b:Nat,a<nb->b<nb->(adj a b=true↔∃v,(pk ((a:Int),(b:Int)),v)∈m)
theorem zG(TB LB HB hoff nb hcap b:Nat)(adj:Nat->Nat->Bool)(m:List (Value×Value))(es:Array MapEntry)(clock:Nat)(w:World)(hnb:nb<=8)(hb:b<nb)(c0:w.cell? ⟨TB,0,none⟩=some (.slice (some ⟨HB,hoff,none⟩) nb hcap))(c2:w.cell? ⟨TB,2,none⟩=some (.map (some LB)))(hTB:TB<w.heap.size)(hm:Mp prog 30 w LB m es clock)(hl:Lk adj nb m):Calls prog 71 #[.pointer (some ⟨TB,0,none⟩),.int .i64 b] w fun e w'=>∃v,e=.returned v/\w'.ownsRow w.heap.size 3 1 v (nbs adj nb b nb).length (kT (nbs adj nb b nb))/\Gr w w':=by
 obtain⟨i0,hi,hz0,hz1,hz2⟩:=info_parts Tryz.infoIntQ;have HM:=hZ hm;have HL:=hZ hl;clear hm hl;go_enter func71,ntmps71;go_wp2_with fail;go_loopw [5,12] (fun v i wr=>∃q:Nat,q<=nb/\i=.int .i64 q/\Hid (Gr w wr)/\Hid (wr.ownsRow w.heap.size 3 1 v (nbs adj nb b q).length (kT (nbs adj nb b q)))) (fun _ i _=>nb-(intOf i).toNat);case atStart=>exact⟨0,zZ,rfl,gZ,bF _ _ _ _⟩
 case round=>
  obtain⟨q,hq,rfl,G,O⟩:=hrel;obtain⟨va,vm,vk,rfl⟩:=gL O.out;have c2':wr.cell? ⟨TB,2,none⟩=some (.map (some LB)):=(G.cell (p:=⟨TB,2,none⟩) hTB).trans c2;clear c0 c2;have hlen:=wA adj nb b q;by_cases hlt:q<nb
  ·have hM':=HM.kept (G.block LB HM.lt);have hI:I64 ((b:Int)):=⟨by omega,by omega⟩;have hJ:I64 ((q:Int)):=⟨by omega,by omega⟩;have HC:=hZ (wU TB LB ((b:Int),(q:Int)) m es clock (adj b q) wr hI hJ c2' hM' (HL.iff b q hb hlt));clear hM' hI hJ;cases ha:adj b q with
   |true=>
    rw[ha] at HC;go_wp2_with fail;refine HC.mono ?_;rintro e w1 ⟨rfl,hw⟩;have hw':=hw.symm;clear hw;subst hw';go_wp2_with(at_builtin;refine wpList_append_own _ rfl _ _ 169 rfl w.heap.size 3 i0 (.int .i64 0) 1 8 underlying169 hi hz0 hz1 hz2 rfl (by decide) _ _ _ rfl (O.alloc _) ⟨wr.heap.size,0,none⟩ 1 1 [.int .i64 q] rfl rfl (cell_one_new _ _ _) ?k2 ?k3 ?k4 ?k5 ?_);case k2=>intro t ht;simp at ht;subst ht;rfl
    case k3=>unfold maxLen;omega
    case k4=>omega
    case k5=>have:=G.size;simp;omega
    intro v5 w5 ho5 hg5 _;have G5:Hid (Gr w w5):=Below.grown (G.alloc _) hg5 (aA G.size (by simp)) (iC O.out);(have O5:Hid (w5.ownsRow w.heap.size 3 1 v5 (nbs adj nb b (q+1)).length (kT (nbs adj nb b (q+1)))):=by show World.ownsRow _ _ _ _ _ _ _;rw[Lq hlt ha,aG,wF];exact ho5);obtain⟨ya,ym,yk,rfl⟩:=gL ho5;clear ho5 hg5 O G;go_wp2_with fail;go_roundw;case rel=>exact⟨q+1,by omega,by go_num,G5,O5⟩
    case measure=>simp[intOf];omega
   |false=>
    rw[ha] at HC;go_wp2_with fail;refine HC.mono ?_;rintro e w1 ⟨rfl,hw⟩;have hw':=hw.symm;clear hw;subst hw';(have O5:Hid (wr.ownsRow w.heap.size 3 1 (.slice va vm vk) (nbs adj nb b (q+1)).length (kT (nbs adj nb b (q+1)))):=by show World.ownsRow _ _ _ _ _ _ _;rw[Sq ha];exact O.out);go_wp2_with fail;go_roundw;case rel=>exact⟨q+1,by omega,by go_num,G,O5⟩
    case measure=>simp[intOf];omega
  ·(have hqn:q=nb:=by omega);subst hqn;go_wp2_with fail;go_ret;exact⟨_,rfl,O.out,G.out⟩
open Go.RowKit Go.Sort Go.Shelf
section
variable {α:Type}
theorem Hb{enc:α->List Value}{k:Nat}(hk:∀x,(enc x).length=k)(h0:0<k):∀(l:List α)(t:Nat),(l.flatMap enc)[t]?=(l[t/k]?).bind fun x=>(enc x)[t % k]?
 |[],t=>by simp
 |a::r,t=>by
  rw[cQ];by_cases ht:t<k
  ·rw[cV (by rw[hk];exact ht),Nat.div_eq_of_lt ht,Nat.mod_eq_of_lt ht];rfl
  ·rw[bS (by rw[hk];omega),hk,Hb hk h0 r (t-k)];(have e1:t/k=(t-k)/k+1:=by have:=Nat.add_div_right (t-k) h0;rw[Nat.sub_add_cancel (by omega)] at this;exact this);(have e2:t % k=(t-k) % k:=by have:=Nat.add_mod_right (t-k) k;rw[Nat.sub_add_cancel (by omega)] at this;exact this);rw[e1,e2,List.getElem?_cons_succ]
theorem Ha{enc:α->List Value}{k:Nat}(hk:∀x,(enc x).length=k):∀l:List α,(l.flatMap enc).length=l.length*k
 |[]=>by simp
 |a::r=>by rw[cQ,aG,hk,Ha hk r,bA,Nat.succ_mul];omega
variable [Inhabited α]
theorem zW{enc:α->List Value}{k:Nat}(hk:∀x,(enc x).length=k)(h0:0<k)(d:Array α):(flatK enc k d).toList=d.toList.flatMap enc:=by
 apply eP;intro t;rw[Hb hk h0];by_cases ht:t<d.size*k
 ·have h1:t/k<d.size:=(Nat.div_lt_iff_lt_mul h0).2 ht;have h2:t % k<k:=Nat.mod_lt _ h0;have h3:t % k<(enc d[t/k]).length:=by rw[hk];exact h2
  have h4:d.toList[t/k]?=some d[t/k]:=by rw[cA,bU h1]
  rw[h4,cA];simp only[Option.bind_some,flatK,Array.getElem?_map];rw[Array.getElem?_range,if_pos ht,aJ h3];simp only[dE];rw[getElem!_pos d (t/k) h1,getElem!_pos (enc d[t/k]) (t % k) h3]
 ·have h1:¬t/k<d.size:=fun h=>ht ((Nat.div_lt_iff_lt_mul h0).1 h);have h4:d.toList[t/k]?=none:=by rw[cA];exact dM (by omega)
  rw[h4,cA,dM (by rw[size_flatK];omega)];rfl
theorem Gq{enc:α->List Value}{k:Nat}(hk:∀x,(enc x).length=k)(h0:0<k){base g cap:Nat}{d:List α}(h:w.ownsRow base T k (.slice (some ⟨g,0,none⟩) d.length cap) d.length (d.flatMap enc)):HoldsK enc k w g 0 d.toArray:=by
 intro j hj;rw[size_flatK] at hj;have hj':j<d.length*k:=by simpa using hj
 have e:(flatK enc k d.toArray)[j]?=(d.flatMap enc)[j]?:=by rw[<-cA,zW hk h0]
 refine⟨?_,aK h _⟩;rw[cE,aH h j hj',<-e];rw[bU (by rw[size_flatK];simpa using hj'),getElem!_pos _ _ (by rw[size_flatK];simpa using hj')];rfl
theorem Ao{F cur:Array Value}(h:F.size<=cur.size):(putCells id 0 F cur).toList.take F.size=F.toList:=by
 apply List.ext_getElem
 ·simp[putCells];omega
 ·intro i h1 h2;simp only[List.getElem_take,Array.getElem_toList,putCells,Array.getElem_mapIdx];have hi:i<F.size:=by simpa using h2
  rw[if_pos ⟨zZ,by omega⟩,Nat.sub_zero,getElem!_pos F i hi];rfl
theorem yK{enc:α->List Value}{k:Nat}(hk:∀x,(enc x).length=k)(h0:0<k){w0:World}{g cap m:Nat}{d d':List α}{os:Array Obj}(hl:d'.length=d.length)(hg:Gr w0 w)(h:w.ownsRow w0.heap.size T k (.slice (some ⟨g,0,none⟩) d.length cap) d.length (d.flatMap enc)):(sortWorldK enc k w g 0 m d'.toArray os).ownsRow w0.heap.size T k (.slice (some ⟨g,0,none⟩) d'.length cap) d'.length (d'.flatMap enc)/\Gr w0 (sortWorldK enc k w g 0 m d'.toArray os):=by
 rcases h.2 with⟨hv,_⟩|⟨b,cap',cur,hv,hb,hh,hnc,hcm,hcs,htk⟩
 ·cases hv
 simp only[Value.slice.injEq,dN,Addr.mk.injEq,and_true,true_and] at hv;obtain⟨rfl,rfl⟩:=hv;have hglt:g<w.heap.size:=fZ hh;have hheap:(sortWorldK enc k w g 0 m d'.toArray os).heap=(w.heap.modify g (onCells (putCells id 0 (flatK enc k d'.toArray))))++os:=rfl;have hsz:(flatK enc k d'.toArray).size=d'.length*k:=by simp
 have hle:(flatK enc k d'.toArray).size<=cur.size:=by rw[hsz,hcs,hl];exact bJ _ hnc
 constructor
 ·refine⟨Ha hk d',Or.inr ⟨g,cap,putCells id 0 (flatK enc k d'.toArray) cur,rfl,hb,?_,by omega,hcm,?_,?_⟩⟩
  ·rw[hheap,fO (by simpa using hglt),Array.getElem?_modify,if_pos rfl,hh];rfl
  ·simp[putCells,hcs]
  ·rw[<-hsz,Ao hle,zW hk h0]
 ·refine⟨hg.os,hg.tape,hg.output,?_,fun q hq=>?_⟩
  ·rw[hheap];simp;exact aA hg.size (Nat.le_add_right _ _)
  ·rw[hheap,fO (by simpa using hg.lt hq),Array.getElem?_modify,if_neg (by omega)];exact hg.block q hq
end
end Go.Proofs.YtecnfgikbmcgoabGreat
