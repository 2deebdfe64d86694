import Derived.Test.YtecnfgikbmcgoabGreatG6
import Derived.Test.YtecnfgikbmcgoabGreatG7
set_option maxHeartbeats 8000000
set_option maxRecDepth 100000
namespace Go.Proofs.YtecnfgikbmcgoabGreat
open Go.Proofs.Tryz
open Go.RowKit Go.Sort Go.Shelf Go.Lib
variable {Ks:List Ky}{X:List Hm}{clock:Nat}{es:Array MapEntry}{from_:Int}{seen:Array Nat}{w w':World}{x:Hm}
def rE(k:Ky):List Value:=[.int .i64 k.1,.int .i64 k.2]
def hG(l:List Ky):List Value:=l.flatMap rE
theorem rX(l:List Ky)(k:Ky):hG (l++[k])=hG l++[.int .i64 k.1,.int .i64 k.2]:=by simp[hG,rE]
theorem ltK(x y:Ky):ltOf cK x y=klt x y:=by unfold ltOf;exact Uq x y
theorem aAP:SWO (ltOf cK) where
 irrefl x:=by rw[ltK];exact jS x
 trans x y z h1 h2:=by rw[ltK] at *;exact mE h1 h2
 ntrans x y z h1 h2:=by
  rw[ltK] at *;cases h:klt x z with
  |false=>rfl
  |true=>
   rcases vA x y with h3|h3|h3
   ·rw[h3] at h1;cases h1
   ·subst h3;rw[h] at h2;cases h2
   ·rw[mE h3 h] at h2;cases h2
theorem aBQ(blk off size:Nat)(w:World):CmpLays prog 92 #[] rE 2 cK blk off size w:=
 fun _ _ _ _ x y=>pU x y _
theorem Ap(L:List Ky)(g cap:Nat)(w0 w:World)(hn:L.length<4611686018427387904)(hg:Gr w0 w)(h:w.ownsRow w0.heap.size 97 2 (.slice (some ⟨g,0,none⟩) L.length cap) L.length (hG L)):Calls prog 91 #[.slice (some ⟨g,0,none⟩) L.length cap,.func (.func 92) #[] #[]] w fun e w'=>e=.returned (.tuple #[])/\∃L',L'.Perm L/\L'.Pairwise (fun x y=>klt y x=false)/\w'.ownsRow w0.heap.size 97 2 (.slice (some ⟨g,0,none⟩) L'.length cap) L'.length (hG L')/\Gr w0 w':=by
 have eg:∀args w,(callFunc 92 args).run prog w=.ok (.enter 92 args) w:=enters_of func92 (by kernel_rfl) rfl;have hlt:g<w.heap.size:=by
  rcases h.2 with⟨hv,_⟩|⟨b,cap',cur,hv,hb,hh,_⟩
  ·cases hv
  ·simp only[Value.slice.injEq,dN,Addr.mk.injEq,and_true,true_and] at hv;rw[hv.1];exact fZ hh
 have hcon:=AnyQ.slices_SortFunc Tryz.sortK 2 Tryz.isAgg97 Tryz.sizeOf97 rE (fun _=>rfl) (fun x v hv=>by simp[rE] at hv;rcases hv with rfl|rfl<;>rfl) cK aAP 92 #[] g 0 cap L.toArray w eg (aBQ g 0 L.toArray.size w) (Gq (enc:=rE) (k:=2) (fun _=>rfl) (by decide) h) hlt (by simpa using hn);simp only[cS] at hcon;refine hcon.mono ?_;rintro e w' ⟨rfl,d',m,os,hp,hs,rfl⟩;have hsz:d'.size=L.length:=by have:=hp.1;simpa using this
 have hd:d'=d'.toList.toArray:=by simp
 have hperm:d'.toList.Perm L:=by
  have h2:=hp.2.2;rw[<-hsz] at h2;have e1:d'.extract 0 d'.size=d':=Array.extract_size;have e2:L.toArray.extract 0 d'.size=L.toArray:=by rw[hsz];simp
  rw[e1,e2] at h2;simpa using h2
 refine⟨rfl,d'.toList,hperm,?_,?_⟩
 ·rw[bZ];intro i j hi hj hij;have:=hs i j zZ hij (by simpa[hsz] using hj);rw[ltK,getElem!_pos d' j (by simpa using hj),getElem!_pos d' i (by simpa using hi)] at this;simpa using this
 ·have:=yK (enc:=rE) (k:=2) (fun _=>rfl) (by decide) (m:=m) (os:=os) (d:=L) (d':=d'.toList) (by simpa using hsz) hg h;rw[<-hd] at this;exact this
theorem aA9(ad:Option Addr)(cap:Nat)(w:World):Calls prog 110 #[.slice ad 0 cap,.int .i64 0,.int .i64 0,.func (.func 92) #[] #[]] w fun e w'=>e=.returned (.tuple #[])/\Gr w w':=by go_enter func110,ntmps110;go_wp2_with fail;refine wp_loop_rounds 1 ?_;rw[rounds_succ];go_wp2_with fail;go_end0;exact⟨rfl,gZ⟩
theorem aAT(ad:Option Addr)(cap:Nat)(l:Int)(w:World):Calls prog 101 #[.slice ad 0 cap,.int .i64 0,.int .i64 0,.int .i64 l,.func (.func 92) #[] #[]] w fun e w'=>e=.returned (.tuple #[])/\Gr w w':=by go_enter func101,ntmps101;go_wp2_with fail;refine wp_loop_rounds 1 ?_;rw[rounds_succ];go_wp2_with fail;refine(aA9 ad cap w).mono ?_;rintro e w1 ⟨rfl,g1⟩;go_wp2_with fail;exact bodyPost_ret (v:=.tuple #[]) (by simp[results,results101,go_sem]) rfl ⟨rfl,g1⟩
theorem Aq(ad:Option Addr)(cap:Nat)(w:World):Calls prog 91 #[.slice ad 0 cap,.func (.func 92) #[] #[]] w fun e w'=>e=.returned (.tuple #[])/\Gr w w':=by go_enter func91,ntmps91;go_wp2_with fail;refine(Tryz.bits_Len 0 w (by decide) (by decide)).mono ?_;rintro e w1 ⟨rfl,hw⟩;have hw':=hw.symm;clear hw;subst hw';go_wp2_with fail;refine(aAT ad cap _ w).mono ?_;rintro e w1 ⟨rfl,g1⟩;go_wp2_with fail;go_end0;exact⟨rfl,g1⟩
def sm:Nat->(Nat->Nat)->Nat
 |0,_=>0
 |n+1,f=>sm n f+f n
theorem oJ{f g:Nat->Nat}:∀n,(∀i,i<n->f i<=g i)->sm n f<=sm n g
 |0,_=>lZ
 |n+1,h=>by have:=oJ n (fun i hi=>h i (by omega));have:=h n (by omega);simp only[sm];omega
theorem mS(f g:Nat->Nat):∀n,sm n (fun i=>f i+g i)=sm n f+sm n g
 |0=>rfl
 |n+1=>by simp only[sm,mS f g n];omega
theorem mY:∀n,sm n (fun _=>0)=0
 |0=>rfl
 |n+1=>by simp only[sm,mY n]
theorem mG(i c:Nat):∀n,sm n (fun j=>if j=i then c else 0)=if i<n then c else 0
 |0=>by simp[sm]
 |n+1=>by
  simp only[sm,mG i c n];by_cases h:i<n
  ·rw[if_pos h,if_neg (by omega),if_pos (by omega)];omega
  ·by_cases h2:n=i
   ·rw[if_neg h,if_pos h2,if_pos (by omega)];omega
   ·rw[if_neg h,if_neg h2,if_neg (by omega)]
theorem nF(c:Nat):∀n,sm n (fun _=>c)=n*c
 |0=>by simp[sm]
 |n+1=>by simp only[sm,nF c n,Nat.succ_mul]
theorem nC:∀(l Ks:List Ky),l.Pairwise (fun x y=>x≠y)->(∀k∈l,k∈Ks)->l.length<=Ks.length
 |[],_,_,_=>by simp
 |a::t,Ks,hp,hs=>by have hp':=cW.1 hp;have ha:=hs a (by simp);have:=nC t (Ks.erase a) hp'.2 (fun k hk=>(List.mem_erase_of_ne (fun e=>hp'.1 k hk e.symm)).2 (hs k (by simp[hk])));rw[List.length_erase_of_mem ha] at this;have:0<Ks.length:=List.length_pos_of_mem ha;simp only[bA];omega
section
variable {F E:Type}
variable {cov:F->F->Bool}{adj:Nat->Nat->Bool}{nxt:Nat->Nat->Int}{home:Int->Nat}{ok:F->Prop}{rank:Nat->Nat->Nat}
theorem Srt.len{l:List (Hd F)}(hs:Srt l)(h:∀x∈l,x.key∈Ks):l.length<=Ks.length:=by
 rw[<-aB (f:=fun x:Hd F=>x.key)];refine nC _ _ ?_ (fun k hk=>?_)
 ·rw[cB];exact fH (fun h=>rW h) hs
 ·obtain⟨x,hx,rfl⟩:=aC.1 hk;exact h x hx
def TS.come(adj:Nat->Nat->Bool)(mt:E->F->Bool)(s:TS F E)(b:Nat)(fr:Int)(e:E):TS F E where
 held:=s.held
 q:=fun x y=>if x=b/\adj b y=true/\(y:Int)≠fr/\((s.held b).any fun h=>h.fr==(y:Int)&&mt e h.f)=true then s.q x y++[.ev e] else s.q x y
theorem Hq{mt:E->F->Bool}{s:TS F E}(I:Inv cov adj nxt home ok s)(b:Nat)(fr:Int)(e:E):Inv cov adj nxt home ok (s.come adj mt b fr e):=by
 have hq:∀x y,(s.come adj mt b fr e).q x y=s.q x y\/(adj x y=true/\(s.come adj mt b fr e).q x y=s.q x y++[.ev e]):=by
  intro x y;simp only[TS.come];split
  ·rename_i h;obtain⟨rfl,h1,_⟩:=h;exact Or.inr ⟨h1,rfl⟩
  ·exact Or.inl rfl
 refine⟨I.srt,I.rt,I.hok,fun x y k f hm=>?_,fun x y k hm=>?_,fun x y hxy=>?_,fun x y hxy=>?_,fun x y hxy=>?_⟩
 ·rcases hq x y with h|⟨_,h⟩
  ·rw[h] at hm;exact I.qs x y k f hm
  ·rw[h] at hm;exact I.qs x y k f (by simpa using hm)
 ·rcases hq x y with h|⟨_,h⟩
  ·rw[h] at hm;exact I.qu x y k hm
  ·rw[h] at hm;exact I.qu x y k (by simpa using hm)
 ·rcases hq x y with h|⟨h1,_⟩
  ·rw[h];exact I.nq x y hxy
  ·rw[hxy] at h1;cases h1
 ·show ap _ (hfr (s.held y) x)=rl (told cov (s.held x) y);rcases hq x y with h|⟨_,h⟩
  ·rw[h];exact I.ag x y hxy
  ·rw[h,wK,I.ag x y hxy];rfl
 ·show wf _ (hfr (s.held y) x);rcases hq x y with h|⟨_,h⟩
  ·rw[h];exact I.al x y hxy
  ·rw[h,vP];exact⟨I.al x y hxy,trivial⟩
def TS.nstep(cov:F->F->Bool)(adj:Nat->Nat->Bool)(mt:E->F->Bool)(s:TS F E)(a b:Nat):Ms F E->TS F E
 |.ev e=>(s.pop a b).come adj mt b a e
 |.sub k f=>s.arr cov adj a b (.sub k f)
 |.uns k=>s.arr cov adj a b (.uns k)
theorem Oi(N:Nx adj nxt){mt:E->F->Bool}{s:TS F E}(I:Inv cov adj nxt home ok s){a b:Nat}(ha:adj a b=true){m:Ms F E}{r:List (Ms F E)}(hq:s.q a b=m::r):Inv cov adj nxt home ok (s.nstep cov adj mt a b m):=by
 cases m with
 |sub k f=>exact El N I ha hq
 |uns k=>exact El N I ha hq
 |ev e=>exact Hq (show Inv cov adj nxt home ok (s.arr cov adj a b (.ev e)) from El N I ha hq) b a e
structure Kin(Ks:List Ky)(s:TS F E):Prop where
 held:∀b,∀h∈s.held b,h.key∈Ks
 q:∀a b k f,Ms.sub k f∈s.q a b->k∈Ks
theorem pX{s:TS F E}(K:Kin Ks s){b:Nat}{l':List (Hd F)}(h:∀x∈l',x.key∈Ks):Kin Ks (s.turn cov adj b l'):=by
 refine⟨fun x g hg=>?_,fun x y k f hm=>?_⟩
 ·simp only[TS.turn] at hg;split at hg
  ·exact h g hg
  ·exact K.held x g hg
 ·simp only[TS.turn] at hm;split at hm
  ·rcases aE.1 hm with hm|hm
   ·exact K.q x y k f hm
   ·obtain⟨g,hg,_,rfl,_⟩:=wS hm;exact h g hg
  ·exact K.q x y k f hm
theorem vZ{mt:E->F->Bool}{s:TS F E}(K:Kin Ks s){a b:Nat}{m:Ms F E}{r:List (Ms F E)}(hq:s.q a b=m::r):Kin Ks (s.nstep cov adj mt a b m):=by
 have KP:Kin Ks (s.pop a b):=⟨K.held,fun x y k f hm=>K.q x y k f (yW hm)⟩;cases m with
 |sub k f=>
  refine pX KP (fun x hx=>?_);rcases iU.1 hx with rfl|⟨hx,_⟩
  ·exact K.q a b k f (by rw[hq];simp)
  ·exact K.held b x hx
 |uns k=>exact pX KP (fun x hx=>K.held b x (jO.1 hx).1)
 |ev e=>
  refine⟨K.held,fun x y k f hm=>KP.q x y k f ?_⟩;simp only[TS.nstep,TS.come] at hm;split at hm
  ·simpa using hm
  ·exact hm
end
open Go.RowKit
open Go.Maps (Keyed)
open Go.ChangeMaps (setBlock)
theorem Tryz.infoKey:(Tryz.prog.info? 97).map (fun i=>(i.zero,i.size,i.bytes))=some (some (.agg #[.int .i64 0,.int .i64 0]),2,16):=by kernel_rfl
theorem jN{W:World}{o:Obj}{B:Nat}(h:W.heap.size=B):(W.alloc o).heap[B]?=some o:=by subst h;exact fY W o
theorem mT{a b:Ky}(h:pk a=pk b):a=b:=by obtain⟨a1,a2⟩:=a;obtain⟨b1,b2⟩:=b;simp[pk] at h;rw[h.1,h.2]
structure Kl(X:List Hm)(es:Array MapEntry)(from_:Int)(seen:Array Nat)(L:List Ky):Prop where
 mem:∀k,k∈L↔∃e∈es.toList,seen.contains e.born=true/\∃x∈X,e.key=pk x.1.key/\x.1.fr=from_/\x.1.key=k
 nd:L.Pairwise fun x y=>x≠y
theorem Kl.len{L:List Ky}(h:Kl X es from_ seen L):L.length<=X.length:=by have:=nC L (X.map fun x=>x.1.key) h.nd (fun k hk=>by obtain⟨_,_,_,x,hx,_,_,rfl⟩:=(h.mem k).1 hk;exact aC.2 ⟨x,hx,rfl⟩);simpa using this
theorem Kl.init(X:List Hm)(es:Array MapEntry)(from_:Int):Kl X es from_ #[] []:=⟨fun k=>by simp,List.Pairwise.nil⟩
theorem Kl.skip{MB:Nat}{L:List Ky}(h:Kl X es from_ seen L)(hp:Hp w MB X es clock){e:MapEntry}(he:e∈es.toList)(hx:x∈X)(hk:e.key=pk x.1.key)(hf:x.1.fr≠from_):Kl X es from_ (seen.push e.born) L:=by
 refine⟨fun k=>?_,h.nd⟩;rw[h.mem k];constructor
 ·rintro⟨e',h1,h2,h3⟩;exact⟨e',h1,by rw[contains_push,h2];rfl,h3⟩
 ·rintro⟨e',h1,h2,y,hy,h4,h5,h6⟩;rw[contains_push] at h2;rcases cN _ _▸h2 with h2|h2
  ·exact⟨e',h1,h2,y,hy,h4,h5,h6⟩
  ·have hee:e'=e:=born_inj hp.mp.bnd h1 he (beq_iff_eq.1 h2);subst hee;have:y=x:=hp.inj hy hx (h4.symm.trans hk);subst this;exact absurd h5 hf
theorem Kl.take{MB:Nat}{L:List Ky}(h:Kl X es from_ seen L)(hp:Hp w MB X es clock){e:MapEntry}(he:e∈es.toList)(hns:seen.contains e.born=false)(hx:x∈X)(hk:e.key=pk x.1.key)(hf:x.1.fr=from_):Kl X es from_ (seen.push e.born) (L++[x.1.key]):=by
 refine⟨fun k=>?_,?_⟩
 ·rw[aE,h.mem k,aM];constructor
  ·rintro(⟨e',h1,h2,h3⟩|rfl)
   ·exact⟨e',h1,by rw[contains_push,h2];rfl,h3⟩
   ·exact⟨e,he,by rw[contains_push];simp,x,hx,hk,hf,rfl⟩
  ·rintro⟨e',h1,h2,y,hy,h4,h5,h6⟩;rw[contains_push] at h2;rcases cN _ _▸h2 with h2|h2
   ·exact Or.inl ⟨e',h1,h2,y,hy,h4,h5,h6⟩
   ·have hee:e'=e:=born_inj hp.mp.bnd h1 he (beq_iff_eq.1 h2);subst hee;have:y=x:=hp.inj hy hx (h4.symm.trans hk);subst this;exact Or.inr h6.symm
 ·rw[eR];refine⟨h.nd,eY _ _,fun a ha b hb=>?_⟩;simp only[aM] at hb;subst hb;intro hab;obtain⟨e',h1,h2,y,hy,h4,h5,h6⟩:=(h.mem a).1 ha;have:y=x:=hp.inj hy hx (by rw[h6,hab]);subst this;have hkk:e'.key=e.key:=h4.trans hk.symm;have hee:e'=e:=by have hd:=hp.mp.nod;rw[<-hp.mp.ent,bV] at hd;exact vD hd h1 he hkk
  subst hee;rw[h2] at hns;cases hns
theorem Kl.all{MB:Nat}{L:List Ky}(h:Kl X es from_ seen L)(hp:Hp w MB X es clock)(h0:(leftOf es seen).size=0)(k:Ky):k∈L↔∃x∈X,x.1.fr=from_/\x.1.key=k:=by
 rw[h.mem k];constructor
 ·rintro⟨_,_,_,x,hx,_,h5,h6⟩;exact⟨x,hx,h5,h6⟩
 ·rintro⟨x,hx,h5,h6⟩;obtain⟨e,he,h1,_⟩:=hp.all hx;exact⟨e,he,all_seen es seen h0 e he,x,hx,h1,h5,h6⟩
theorem vB(TB HB hoff nb hcap b MB:Nat)(from_:Int)(X:List Hm)(es:Array MapEntry)(clock:Nat)(w:World)(c0:w.cell? ⟨TB,0,none⟩=some (.slice (some ⟨HB,hoff,none⟩) nb hcap))(cb:w.cell? ⟨HB,hoff+b,none⟩=some (.map (some MB)))(hb:b<nb)(hX:X.length<=1048576)(hp:Hp w MB X es clock):Calls prog 70 #[.pointer (some ⟨TB,0,none⟩),.int .i64 b,.int .i64 from_] w fun e w'=>∃v L,e=.returned v/\w'.ownsRow w.heap.size 97 2 v L.length (hG L)/\L.Pairwise (fun x y=>klt x y=true)/\(∀k,k∈L↔∃x∈X,x.1.fr=from_/\x.1.key=k)/\Gr w w':=by
 obtain⟨i0,hi,hz0,hz1,hz2⟩:=info_parts Tryz.infoKey;have HP:=hZ hp;clear hp;have hrg:=run_range_map (P:=prog) w 111 97 124 MB es clock underlying111 HP.mp.blk;go_enter func70,ntmps70;go_wp2_with fail;have I0:=hZ (fY w (.mapIter (some MB) clock #[] clock));have G0:=hZ ((Gr.refl w).alloc (.mapIter (some MB) clock #[] clock));clear hrg c0 cb;go_loopw [7] (fun v wr=>∃(seen:Array Nat)(L:List Ky),Hid (wr.heap[w.heap.size]?=some (.mapIter (some MB) clock seen clock))/\Hid (Gr w wr)/\Hid (wr.ownsRow w.heap.size 97 2 v L.length (hG L))/\Hid (Kl X es from_ seen L)) (fun _ wr=>(leftOf es (wr.iterSeen w.heap.size)).size);case atStart=>exact⟨#[],[],I0,G0,bF _ _ _ _,Kl.init X es from_⟩
 case round=>
  clear I0 G0;obtain⟨seen,L,IT,G,O,KL⟩:=hrel;obtain⟨va,vm,vk,rfl⟩:=gL O.out;have HMS:Hid (leftOf es (wr.iterSeen w.heap.size)=leftOf es seen):=by show _=_;unfold World.iterSeen;rw[IT.out]
  rcases uR (HP.gr G.out) IT lZ G.out with⟨h0,hnx⟩|⟨e,he,W2,hnx,hen,hit2,g2,hoth,hsz2⟩
  ·have HA:=hZ (KL.all HP h0);have HND:=hZ KL.nd;have HLN:=hZ KL.len;clear h0;obtain⟨va',vk',he',hsh⟩:=gH O.out;(obtain⟨rfl,rfl,rfl⟩:va=va'/\vm=L.length/\vk=vk':=by injection he' with h1 h2 h3;exact⟨h1,h2,h3⟩);clear he';by_cases hL:L=[]
   ·subst hL;have HS:=hZ (Aq va vk wr);go_wp2_with fail;refine HS.mono ?_;rintro e w3 ⟨rfl,g3⟩;have G3:=hZ (Gr.call G g3);have O3:=hZ (gO O g3);go_wp2_with fail;go_ret;exact⟨_,[],rfl,O3.out,List.Pairwise.nil,HA.out,G3.out⟩
   ·obtain⟨g,rfl⟩:=hsh (by cases L with|nil=>exact absurd rfl hL|cons a t=>simp);have HS:=hZ (Ap L g vk w wr (by have:=HLN.out;omega) G O.out);clear hL hsh;go_wp2_with fail;refine HS.mono ?_;rintro e w3 ⟨rfl,L',hp,hs,ho,g3⟩;have hlen:=hp.length_eq;have G3:=hZ g3;have O3:=hZ ho;rw[hlen] at O3;have SR:Hid (L'.Pairwise fun x y=>klt x y=true):=by
     have hnd:L'.Pairwise fun x y=>x≠y:=hp.symm.pairwise HND (fun{a b} h=>h.symm);refine fH ?_ (List.Pairwise.and hs hnd);rintro a b ⟨h1,h2⟩;rcases vA a b with h3|h3|h3
     ·exact h3
     ·exact absurd h3 h2
     ·rw[h3] at h1;cases h1
    have MB':Hid (∀k,k∈L'↔∃x∈X,x.1.fr=from_/\x.1.key=k):=fun k=>(hp.mem_iff).trans (HA k);have HLE:=hZ hlen;clear hp hs ho g3 hlen;go_wp2_with fail;go_ret;exact⟨_,L',rfl,by rw[HLE.out];exact O3.out,SR.out,MB'.out,G3.out⟩
  ·obtain⟨x,hx,hk,hv'⟩:=HP.ent (mem_left he).1;rw[hv'] at hnx hen;rw[hk] at hnx hen;unfold hv pk at hnx hen;have HLN:=hZ KL.len;have IT2:=hZ hit2;have G2:=hZ g2;have hW2:w.heap.size+1<=W2.heap.size:=fZ IT2.out;have HNE:Hid (Value.ownBlock (.slice va vm vk)≠some w.heap.size):=by
    intro h5;rcases O.2 with⟨h6,_⟩|⟨b',cap',cur,h6,_,h7,_⟩
    ·rw[h6] at h5;simp[Value.ownBlock] at h5
    ·rw[h6] at h5;(have:b'=w.heap.size:=by simpa[Value.ownBlock] using h5);subst this;rw[IT.out] at h7;cases h7
   have O2:Hid (W2.ownsRow w.heap.size 97 2 (.slice va vm vk) L.length (hG L)):=by
    obtain⟨q1,q2⟩:=O.out;refine⟨q1,?_⟩;rcases q2 with q2|⟨b',cap',cur,h6,h8,h7,q3⟩
    ·exact Or.inl q2
    ·refine Or.inr ⟨b',cap',cur,h6,h8,?_,q3⟩;rw[hoth b' (fun h9=>HNE (by rw[h6,h9];rfl))];exact h7
   (have MS:Hid (∀w':World,w'.heap[w.heap.size]?=some (.mapIter (some MB) clock (seen.push e.born) clock)->(leftOf es (w'.iterSeen w.heap.size)).size<(leftOf es (wr.iterSeen w.heap.size)).size):=by intro w' hi;rw[HMS.out];unfold World.iterSeen;rw[hi];exact left_shrinks es seen e he);have G3:=hZ (((Gr.refl W2).alloc (.cells #[.int .i64 x.1.key.1,.int .i64 x.1.key.2] 97)).alloc (.cells #[.int .i64 x.1.key.1,.int .i64 x.1.key.2,.slice x.2.1 x.1.f.length x.2.2,.int .i64 x.1.fr] 124));have G23:=hZ (Gr.call G2 G3.out);have O3:=hZ (gO O2 G3.out);by_cases hf:x.1.fr=from_
   ·have KL2:=hZ (KL.take HP (mem_left he).1 (mem_left he).2 hx hk hf);subst hf;clear he hk hx hit2 g2 hoth hsz2 hv' G IT O KL HMS;(have hs3:((W2.alloc (.cells #[.int .i64 x.1.key.1,.int .i64 x.1.key.2] 97)).alloc (.cells #[.int .i64 x.1.key.1,.int .i64 x.1.key.2,.slice x.2.1 x.1.f.length x.2.2,.int .i64 x.1.fr] 124)).heap.size=W2.heap.size+1+1:=by simp);go_wp2_with(at_builtin;refine wpList_append_own _ rfl _ _ 95 rfl w.heap.size 97 i0 _ 2 16 underlying95 hi hz0 hz1 hz2 rfl (by decide) _ _ _ rfl (O3.alloc _) ⟨W2.heap.size+1+1,0,none⟩ 1 1 [.int .i64 x.1.key.1,.int .i64 x.1.key.2] rfl rfl ?k1 ?k2 ?k3 ?k4 ?k5 ?_);case k1=>exact World.news_of_block (jN hs3)
    case k2=>intro t ht;simp at ht;rcases ht with rfl|rfl<;>rfl
    case k3=>have:=HLN.out;unfold maxLen;omega
    case k4=>have:=HLN.out;omega
    case k5=>simp;omega
    intro v5 w5 ho5 hg5 _;have G5:Hid (Gr w w5):=Below.grown (G23.alloc _) hg5 (aA G23.size (by simp)) (iC O3.out);(have I5:Hid (w5.heap[w.heap.size]?=some (.mapIter (some MB) clock (seen.push e.born) clock)):=by show _=_;rw[hg5.block w.heap.size (by simp;omega) (fun h5=>HNE h5.symm),Below.heap_alloc _ _ _ (by simp;omega),G3.block w.heap.size (by omega)];exact IT2.out);(have O5:Hid (w5.ownsRow w.heap.size 97 2 v5 (L++[x.1.key]).length (hG (L++[x.1.key]))):=by show World.ownsRow _ _ _ _ _ _ _;rw[rX,aG];exact ho5);have M5:=hZ (MS w5 I5.out);obtain⟨ya,ym,yk,rfl⟩:=gL ho5;clear ho5 hg5 O3 O2 MS;go_wp2_with fail;exact⟨⟨_,_,I5,G5,O5,KL2⟩,M5.out⟩
   ·have KL2:=hZ (KL.skip HP (mem_left he).1 hx hk hf);(have hf':(x.1.fr==from_)=false:=by simpa using hf);clear he hk hx hit2 g2 hoth hsz2 hv' G IT O KL HMS;have I3:Hid (((W2.alloc (.cells #[.int .i64 x.1.key.1,.int .i64 x.1.key.2] 97)).alloc (.cells #[.int .i64 x.1.key.1,.int .i64 x.1.key.2,.slice x.2.1 x.1.f.length x.2.2,.int .i64 x.1.fr] 124)).heap[w.heap.size]?=some (.mapIter (some MB) clock (seen.push e.born) clock)):=(G3.block w.heap.size (by omega)).trans IT2.out;have M3:=hZ (MS _ I3.out);clear MS;go_wp2_with fail;exact⟨⟨_,L,I3,G23,O3,KL2⟩,M3.out⟩
structure Hs(w:World)(TB HB hoff nb hcap:Nat)(Xs:Nat->List Hm):Prop where
 c0:w.cell? ⟨TB,0,none⟩=some (.slice (some ⟨HB,hoff,none⟩) nb hcap)
 tlt:TB<w.heap.size
 hlt:HB<w.heap.size
 at':∀b,b<nb->∃MB es clock,w.cell? ⟨HB,hoff+b,none⟩=some (.map (some MB))/\Hp w MB (Xs b) es clock
theorem Hs.gr{TB HB hoff nb hcap:Nat}{Xs:Nat->List Hm}(h:Hs w TB HB hoff nb hcap Xs)(g:Gr w w'):Hs w' TB HB hoff nb hcap Xs:=⟨(g.cell (p:=⟨TB,0,none⟩) h.tlt).trans h.c0,g.lt h.tlt,g.lt h.hlt,fun b hb=>by obtain⟨MB,es,clock,h1,h2⟩:=h.at' b hb;exact⟨MB,es,clock,(g.cell (p:=⟨HB,hoff+b,none⟩) h.hlt).trans h1,h2.gr g⟩⟩
def vX(X:List Hm):Nat:=(X.filter fun x=>x.1.fr==-1).length
theorem Fx{MB:Nat}(h:Hp w MB X es clock){L:List Ky}(hs:L.Pairwise fun x y=>klt x y=true)(hm:∀k,k∈L↔∃x∈X,x.1.fr=-1/\x.1.key=k):L.length=vX X:=by
 have hnd:((X.filter fun x=>x.1.fr==-1).map fun x=>x.1.key).Pairwise fun x y=>x≠y:=by
  have hd:=h.mp.nod;rw[bV] at hd;rw[cB];have hd':X.Pairwise fun x y=>x.1.key≠y.1.key:=by have:=cB.1 hd;refine fH ?_ this;intro a b hab e;exact hab (by show pk a.1.key=pk b.1.key;rw[e])
  exact hd'.filter _
 have h1:=nC L ((X.filter fun x=>x.1.fr==-1).map fun x=>x.1.key) (fH (fun h=>rW h) hs) (fun k hk=>by obtain⟨x,hx,h1,h2⟩:=(hm k).1 hk;exact aC.2 ⟨x,aY.2 ⟨hx,by simpa using h1⟩,h2⟩);have h2:=nC ((X.filter fun x=>x.1.fr==-1).map fun x=>x.1.key) L hnd (fun k hk=>by obtain⟨x,hx,rfl⟩:=aC.1 hk;have:=aY.1 hx;exact(hm _).2 ⟨x,this.1,by simpa using this.2,rfl⟩);simp only[aB] at h1 h2;unfold vX;omega
theorem gD(n j:Nat)(h:j<n):n-(intOf (.int .i64 ((j:Int)+1))).toNat<n-(intOf (.int .i64 (j:Int))).toNat:=by simp[intOf];omega
theorem sA(TB HB hoff nb hcap:Nat)(Xs:Nat->List Hm)(w:World)(hnb:nb<=8)(hX:∀b,(Xs b).length<=1048576)(h:Hs w TB HB hoff nb hcap Xs):Calls prog 41 #[.pointer (some ⟨TB,0,none⟩)] w fun e w'=>e=.returned (.int .i64 (sm nb fun b=>vX (Xs b)))/\Gr w w':=by
 have HH:=hZ h;have HX:=hZ hX;have c0:=h.c0;clear h hX;go_enter func41,ntmps41;go_wp2_with fail;go_loopw [3,10] (fun n i wr=>∃q:Nat,q<=nb/\i=.int .i64 q/\n=.int .i64 ((sm q fun b=>vX (Xs b):Nat):Int)/\Hid (Gr w wr)) (fun _ i _=>nb-(intOf i).toNat);case atStart=>exact⟨0,zZ,rfl,rfl,gZ⟩
 case round=>
  obtain⟨q,hq,rfl,rfl,G⟩:=hrel;clear c0;by_cases hlt:q<nb
  ·have H2:=HH.gr G.out;obtain⟨MB,es,clock,cb,hp⟩:=H2.at' q hlt;have KF:=hZ (vB TB HB hoff nb hcap q MB (-1) (Xs q) es clock wr H2.c0 cb hlt (HX q) hp);have HP:=hZ hp;(have hsum:(sm q fun b=>vX (Xs b))<=q*1048576:=by rw[<-nF 1048576 q];exact oJ q (fun i _=>aA (aX _ _) (HX i)));have hone:vX (Xs q)<=1048576:=aA (aX _ _) (HX q);have hnext:(sm (q+1) fun b=>vX (Xs b))=(sm q fun b=>vX (Xs b))+vX (Xs q):=rfl;have HN:=hZ hnext;clear H2 cb hp hnext;generalize(sm q fun b=>vX (Xs b))=t at *;go_wp2_with fail;refine KF.mono ?_;rintro e w1 ⟨v,L,rfl,ho,hs,hm,g1⟩;have hl:=Fx HP hs hm;obtain⟨va,vk,rfl,_⟩:=gH ho;have G1:=hZ (Gr.call G g1);rw[hl];clear ho hs hm g1 KF hl;generalize vX (Xs q)=c at *;(have hw:wrap64 ((t:Int)+(c:Int))=((t+c:Nat):Int):=by unfold wrap64;omega);go_wp2_with fail;refine⟨⟨q+1,by omega,by simp,?_,G1⟩,gD _ _ hlt⟩;rw[HN.out];simp
  ·(have hqn:q=nb:=by omega);subst hqn;go_wp2_with fail;go_ret;exact⟨rfl,G.out⟩
def Qr(w:World)(e:TypeId)(size:Nat)(R:Nat->Prop)(v:Value)(n:Nat)(xs:List Value):Prop:=xs.length=n*size/\((v=.slice none 0 0/\n=0)\/∃g off cap cur,v=.slice (some ⟨g,off,none⟩) n cap/\R g/\w.heap[g]?=some (.cells cur e (0,0))/\n<=cap/\cap<=maxLen/\off+cap*size<=cur.size/\(cur.toList.drop off).take (n*size)=xs)
theorem Qr.kept{e:TypeId}{size:Nat}{R R':Nat->Prop}{v:Value}{n:Nat}{xs:List Value}(h:Qr w e size R v n xs)(hk:∀g,g<w.heap.size->R g->w'.heap[g]?=w.heap[g]?/\R' g):Qr w' e size R' v n xs:=by
 refine⟨h.1,?_⟩;rcases h.2 with h2|⟨g,off,cap,cur,hv,hR,hg,h3⟩
 ·exact Or.inl h2
 ·obtain⟨k1,k2⟩:=hk g (bL.1 hg).1 hR;exact Or.inr ⟨g,off,cap,cur,hv,k2,k1.trans hg,h3⟩
theorem Qr.nil(w:World)(e:TypeId)(size:Nat)(R:Nat->Prop):Qr w e size R (.slice none 0 0) 0 []:=⟨by simp,Or.inl ⟨rfl,rfl⟩⟩
theorem Qr.shape{e:TypeId}{size:Nat}{R:Nat->Prop}{v:Value}{n:Nat}{xs:List Value}(h:Qr w e size R v n xs):∃a c,v=.slice a n c:=by
 rcases h.2 with⟨h2,h3⟩|⟨g,off,cap,cur,hv,_⟩
 ·exact⟨none,0,by rw[h2,h3]⟩
 ·exact⟨_,_,hv⟩
theorem Qr.own{e:TypeId}{size:Nat}{R:Nat->Prop}{v:Value}{n:Nat}{xs:List Value}(h:Qr w e size R v n xs):∀k,v.ownBlock=some k->R k/\k<w.heap.size:=by
 intro k hk;rcases h.2 with⟨rfl,_⟩|⟨g,off,cap,cur,rfl,hR,hg,_⟩
 ·simp[Value.ownBlock] at hk
 ·simp[Value.ownBlock] at hk;subst hk;exact⟨hR,(bL.1 hg).1⟩
section
variable {P:Program}(w:World)
theorem Nf(g o j:Nat):(⟨g,o,none⟩:Addr).add j=⟨g,o+j,none⟩:=by unfold Addr.add;split<;>simp_all
theorem uI(t ty e:TypeId)(i:TypeInfo)(ht:P.underlying t=some (.slice e))(hi:P.info? e=some i)(g off sLen sCap:Nat)(cur:Array Value)(hg:w.heap[g]?=some (.cells cur e (0,0)))(a:Addr)(m c:Nat)(news:List Value)(hl:news.length=m*i.size)(hnews:∀j u,news[j]?=some u->w.cell? (a.add j)=some u)(h1:∀u∈news,u.oneCell'=true)(hroom:sLen+m<=sCap)(hfit:off+sLen*i.size+news.length<=cur.size):(Builtin.append_ #[t,t] ty #[.slice (some ⟨g,off,none⟩) sLen sCap,.slice (some a) m c]).run P w = .ok (.slice (some ⟨g,off,none⟩) (sLen+m) sCap) (w.setRow g (cur.toList.take (off+sLen*i.size)++news++cur.toList.drop (off+sLen*i.size+news.length)).toArray):=by have hf:=run_firstCells_some (P:=P) w i.size m a m c news hl hnews;have hst:=run_storeCells_at P g (off+sLen*i.size) e news 0 cur w hg (by simpa using hfit) h1;simp only[fI] at hst;simp[Builtin.append_,run_underlying ht,sizeOf,typeInfo,hi,Builtin.lenOf,hroom,hf,Nf,hst]
theorem uJ(t ty e:TypeId)(i:TypeInfo)(z:Value)(size bytes:Nat)(ht:P.underlying t=some (.slice e))(hi:P.info? e=some i)(hz:i.zero=some z)(hsize:i.size=size)(hby:i.bytes=bytes)(hzs:z.cells.size=size)(R:Nat->Prop)(v:Value)(n:Nat)(xs:List Value)(hown:Qr w e size R v n xs)(a:Addr)(m c:Nat)(news:List Value)(hm:0<m)(hl:news.length=m*size)(hnews:∀j u,news[j]?=some u->w.cell? (a.add j)=some u)(h1:∀u∈news,u.oneCell'=true)(h63:n+m<=maxLen)(hbytes:(n+m)*bytes<=140737488355328):∃v' w',(Builtin.append_ #[t,t] ty #[v,.slice (some a) m c]).run P w=.ok v' w'/\Qr w' e size (fun k=>v'.ownBlock=some k) v' (n+m) (xs++news)/\w.grownBy w' v.ownBlock /\(v'.ownBlock=v.ownBlock\/v'.ownBlock=some w.heap.size)/\Qr w' e size R v n xs:=by
 subst hsize;subst hby;have hsmall:n+m<=9223372036854775807:=by simp only[maxLen] at h63;omega
 have hlen:(xs++news).length=(n+m)*i.size:=by rw[aG,hown.1,hl,eB]
 have grown:∀(old:Nat),old<n+m->∀(row:Option Nat),Qr (w.drew.alloc (.cells (xs.toArray++news.toArray++Builtin.zeroCells z.cells (grownCap w (n+m) old e-(n+m))) e)) e i.size (fun k=>Value.ownBlock (.slice (some ⟨w.heap.size,0,none⟩) (n+m) (grownCap w (n+m) old e))=some k) (.slice (some ⟨w.heap.size,0,none⟩) (n+m) (grownCap w (n+m) old e)) (n+m) (xs++news) /\w.grownBy (w.drew.alloc (.cells (xs.toArray++news.toArray++Builtin.zeroCells z.cells (grownCap w (n+m) old e-(n+m))) e)) row:=by
  intro old ho row;have hge:=grownCap_ge w (n+m) old e;have hcm:grownCap w (n+m) old e<=maxLen:=grownCap_le_maxLen w (n+m) old e h63;refine⟨⟨hlen,.inr ⟨w.heap.size,0,_,_,rfl,rfl,fY w.drew _,hge,hcm,?_,?_⟩⟩,⟨rfl,rfl,rfl,by simp,fun k hk _=>Below.heap_alloc w.drew _ k hk⟩⟩
  ·simp only[Array.size_append,cS,size_zeroCells,hzs,hown.1,hl,<-eB,cE];exact bJ _ (by omega)
  ·simp only[Array.toList_append,aU,bX];rw[<-aU,<-hlen];exact fK
 rcases hown.2 with⟨rfl,rfl⟩|⟨g,off,cap,cur,rfl,hR,hg,hnc,hcm,hcs,htake⟩
 ·have hx:xs=[]:=dP (by simpa using hown.1);subst hx;have hr:=run_append_nil (P:=P) w t ty e i z ht hi hz a m c news hl hnews (by omega) (by omega) (by have hb:=hbytes;simp only[cE] at hb;omega);have hgr:=grown 0 (by omega) (Value.ownBlock (.slice none 0 0));simp only[cE,bM,Array.empty_append] at hgr ⊢;exact⟨_,_,hr,hgr.1,hgr.2,Or.inr rfl,Qr.nil _ _ _ _⟩
 ·have hx1:xs.length=n*i.size:=hown.1;have hle:n*i.size<=cap*i.size:=bJ _ hnc;by_cases hroom:n+m<=cap
  ·(have hfit:off+n*i.size+news.length<=cur.size:=by have:=bJ i.size hroom;rw[eB] at this;omega);have hr:=uI (P:=P) w t ty e i ht hi g off n cap cur hg a m c news hl hnews h1 hroom hfit;refine⟨_,_,hr,⟨hlen,.inr ⟨g,off,cap,_,rfl,rfl,setRow_heap w g cur _ e _ hg,hroom,hcm,?_,?_⟩⟩,⟨rfl,rfl,rfl,by simp,fun k _ hk=>setRow_other w g k _ (fun e=>hk (by simp[Value.ownBlock,e]))⟩,Or.inl rfl,⟨hown.1,Or.inr ⟨g,off,cap,_,rfl,hR,setRow_heap w g cur _ e _ hg,hnc,hcm,?_,?_⟩⟩⟩
   ·simp only[cS,aG,dQ,dY,dO];omega
   ·(have hd:(cur.toList.take (off+n*i.size)++news++cur.toList.drop (off+n*i.size+news.length)).drop off=xs++news++cur.toList.drop (off+n*i.size+news.length):=by rw[aU,List.drop_append_of_le_length (by simp;omega),List.drop_take,show off+n*i.size-off=n*i.size by omega,htake,aU]);rw[hd,<-hlen];exact fK
   ·simp only[cS,aG,dQ,dY,dO];omega
   ·(have hd:(cur.toList.take (off+n*i.size)++news++cur.toList.drop (off+n*i.size+news.length)).drop off=xs++news++cur.toList.drop (off+n*i.size+news.length):=by rw[aU,List.drop_append_of_le_length (by simp;omega),List.drop_take,show off+n*i.size-off=n*i.size by omega,htake,aU]);rw[hd,aU,<-hx1];exact fK
  ·have holds:∀j u,xs[j]?=some u->w.cell? ((⟨g,off,none⟩:Addr).add j)=some u:=by
    intro j u hu;rw[Nf,cell_of_row w g (off+j) cur e (0,0) hg];rw[<-htake,fD] at hu;split at hu
    ·rw[List.getElem?_drop] at hu;simpa using hu
    ·cases hu
   have hr:=run_append_grow (P:=P) w t ty e i z ht hi hz ⟨g,off,none⟩ n cap xs hown.1 holds a m c news hl hnews (by omega) (by omega) (growslice_fits (by omega) hbytes);have hgr:=grown cap (by omega) (Value.ownBlock (.slice (some ⟨g,off,none⟩) n cap));refine⟨_,_,hr,hgr.1,hgr.2,Or.inr rfl,hown.kept fun k hk hRk=>⟨Below.heap_alloc w.drew _ k hk,hRk⟩⟩
end
theorem mA{P:Program}(w:World){o:Oper}{a:Act}{K:Act->World->Prop}{Q:Exit->Act->World->Prop}(s x:Operand)(t:TypeId)(ho:o.op=.call { callee:=.builtin .append,args:=#[s,x],argTypes:=#[t,t] })(e:TypeId)(i:TypeInfo)(z:Value)(size bytes:Nat)(ht:P.underlying t=some (.slice e))(hi:P.info? e=some i)(hz:i.zero=some z)(hsize:i.size=size)(hby:i.bytes=bytes)(hzs:z.cells.size=size)(R:Nat->Prop)(v:Value)(n:Nat)(xs:List Value)(hs:a.eval s=v)(hown:Qr w e size R v n xs)(ad:Addr)(m c:Nat)(news:List Value)(hx:a.eval x=.slice (some ad) m c)(hm:0<m)(hl:news.length=m*size)(hnews:∀j u,news[j]?=some u->w.cell? (ad.add j)=some u)(h1:∀u∈news,u.oneCell'=true)(h63:n+m<=maxLen)(hbytes:(n+m)*bytes<=140737488355328)(h:∀v' w',Qr w' e size (fun k=>v'.ownBlock=some k) v' (n+m) (xs++news)->w.grownBy w' v.ownBlock->(v'.ownBlock=v.ownBlock\/v'.ownBlock=some w.heap.size)->Qr w' e size R v n xs->K (a.put o.dst v') w'):o.wp P a w K Q:=by obtain⟨v',w',hr,h2,h3,h4,h5⟩:=uJ (P:=P) w t o.type e i z size bytes ht hi hz hsize hby hzs R v n xs hown ad m c news hm hl hnews h1 h63 hbytes;unfold Oper.wp execOp;simp only[ho,resolve,invoke,builtin,Sem.run_bind,Sem.run_pure,cY,List.map_toArray,bH,dI,hs,hx,hr];exact h v' w' h2 h3 h4 h5
theorem Qr.pop{e:TypeId}{size:Nat}{R:Nat->Prop}{g off cap n:Nat}{cur cur':Array Value}{xs:List Value}(hx:xs.length=n*size)(hn:0<n)(hR:R g)(hnc:n<=cap)(hcm:cap<=maxLen)(hcs:off+cap*size<=cur.size)(htake:(cur.toList.drop off).take (n*size)=xs)(hg:w'.heap[g]?=some (.cells cur' e (0,0)))(hsz:cur'.size=cur.size)(hdr:cur'.toList.drop (off+size)=cur.toList.drop (off+size)):Qr w' e size R (.slice (if cap=1 then some ⟨g,off,none⟩ else some ⟨g,off+size,none⟩) (n-1) (cap-1)) (n-1) (xs.drop size):=by
 have hsub:n*size-size=(n-1)*size:=by rw[Nat.sub_mul,Nat.one_mul]
 refine⟨by rw[dY,hx,hsub],Or.inr ?_⟩;by_cases hc:cap=1
 ·have hn1:n=1:=by omega
  subst hc;subst hn1;refine⟨g,off,0,cur',rfl,hR,hg,lZ,by unfold maxLen;omega,by omega,?_⟩;rw[List.drop_eq_nil_of_le (by omega:xs.length<=size)];simp
 ·have hcap:(cap-1)*size=cap*size-size:=by rw[Nat.sub_mul,Nat.one_mul]
  have hge:size<=cap*size:=by have:=bJ size (show 1<=cap by omega);omega
  refine⟨g,off+size,cap-1,cur',by rw[if_neg hc],hR,hg,by omega,by omega,by rw[hcap,hsz];omega,?_⟩;rw[hdr,<-htake,<-hsub,List.drop_take,List.drop_drop]
end Go.Proofs.YtecnfgikbmcgoabGreat
