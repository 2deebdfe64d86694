import Derived.Test.YtecnfgikbmcgoabGreatG30
set_option maxHeartbeats 8000000
set_option maxRecDepth 100000
namespace Go.Proofs.YtecnfgikbmcgoabGreat
open Go.Proofs.Tryz
open Go.RowKit
variable {A B D:Nat->Prop}{BB M PB:Nat}{C:Rc}{Ls:List Rln}{T:Tc}{Xs:Nat->List Hm}{cls:List Cl}{cs:List (Pc (List Atr))}{nxt:Nat->Nat->Int}{r1:Nat->Rl}{rank:Nat->Nat->Nat}{w w' w2:World}
theorem aA8:∀{l m:List Ky},l.Pairwise (fun x y=>klt x y=true)->m.Pairwise (fun x y=>klt x y=true)->(∀x,x∈l↔x∈m)->l=m
 |[],[],_,_,_=>rfl
 |[],b::t,_,_,h=>by have:=(h b).2 (by simp);cases this
 |a::t,[],_,_,h=>by have:=(h a).1 (by simp);cases this
 |a::t,b::u,hl,hm,h=>by
  have ha:=cW.1 hl;have hb:=cW.1 hm;have hab:a=b:=by
   rcases aN.1 ((h a).1 (by simp)) with e|e
   ·exact e
   ·rcases aN.1 ((h b).2 (by simp)) with e'|e'
    ·exact e'.symm
    ·have h1:=ha.1 b e';have h2:=hb.1 a e;rw[qG h1] at h2;cases h2
  subst hab;congr 1;refine aA8 ha.2 hb.2 (fun x=>?_);constructor
  ·intro hx;rcases aN.1 ((h x).1 (by simp[hx])) with e|e
   ·subst e;have:=ha.1 x hx;rw[jS] at this;cases this
   ·exact e
  ·intro hx;rcases aN.1 ((h x).2 (by simp[hx])) with e|e
   ·subst e;have:=hb.1 x hx;rw[jS] at this;cases this
   ·exact e
def lX(s:Ts)(b:Nat)(from_:Int):List Ky:=((s.held b).filter fun h=>h.fr==from_).map fun h=>h.key
theorem Ju{r:Nat->Rl}{s:Ts}(hT:Tf T r w cs s)(hm:Sm T s){b:Nat}(hb:b<T.nb)(hs:Srt (s.held b))(from_:Int):Calls prog 70 #[.pointer (some ⟨T.TB,0,none⟩),.int .i64 b,.int .i64 from_] w fun e w'=>∃v,e=.returned v/\w'.ownsRow w.heap.size 97 2 v (lX s b from_).length (hG (lX s b from_))/\Gr w w':=by
 obtain⟨cls,⟨Xs,qs,h1,hV⟩,_⟩:=hT;obtain⟨es,clock,hp⟩:=h1.hp hb;refine(vB T.TB T.HB 0 T.nb T.hcap b (T.MB b) from_ (Xs b) es clock w h1.b.c0 (by rw[cE];exact h1.b.hb b hb) hb (aA (vR h1 hV hb) (hm.h b hb)) hp).mono ?_;rintro e w' ⟨v,L,h2,h3,h4,h5,h6⟩;have e1:L=lX s b from_:=by
  refine aA8 h4 ?_ (fun k=>?_)
  ·unfold lX;rw[cB];exact hs.filter _
  ·rw[h5];unfold lX;simp only[aC,aY,beq_iff_eq];constructor
   ·rintro⟨x,hx,h7,rfl⟩;exact⟨x.1,⟨(hV.held b hb x.1).2 ⟨x,hx,rfl⟩,h7⟩,rfl⟩
   ·rintro⟨g,⟨h7,h8⟩,rfl⟩;obtain⟨x,hx,rfl⟩:=(hV.held b hb g).1 h7;exact⟨x,hx,h8,rfl⟩
 rw[<-e1];exact⟨v,h2,h3,h6⟩
theorem Co{r:Nat->Rl}{s:Ts}(hT:Tf T r w cs s)(k:Ky)(h1:I64 k.1)(h2:I64 k.2)(q:Bool)(hq:q=true↔∃a b:Nat,k=((a:Int),(b:Int))/\T.adj a b=true):Calls prog 90 #[.pointer (some ⟨T.TB,0,none⟩),.int .i64 k.1,.int .i64 k.2] w fun e w'=>e=.returned (.bool q)/\w'=w:=by
 obtain⟨cls,⟨Xs,qs,t,hV⟩,_⟩:=hT;obtain⟨m,es,clock,hm,_,hall,hev⟩:=t.l.lk;refine wU T.TB T.LB k m es clock q w h1 h2 t.b.c2 hm (hq.trans ⟨?_,?_⟩)
 ·rintro⟨a,b,rfl,hab⟩;exact hev a b hab
 ·rintro⟨v,hv⟩;obtain⟨a,b,e,hab,_⟩:=hall _ v hv;exact⟨a,b,mT e,hab⟩
theorem Vi(T:Tc)(r:Nat->Rl)(w:World)(cs:List (Pc (List Atr)))(s:Ts)(b:Nat)(from_:Int)(hT:Tf T r w cs s)(hm:Sm T s)(hb:b<T.nb)(hs:Srt (s.held b))(hf:from_=-1\/∃a:Nat,from_=(a:Int)/\T.adj b a=true):Calls prog 64 #[.pointer (some ⟨T.TB,0,none⟩),.int .i64 b,.int .i64 from_] w fun e w'=>∃v,e=.returned (.tuple #[v,.int .i64 0])/\w'.ownsRow w.heap.size 97 2 v (lX s b from_).length (hG (lX s b from_))/\Gr w w':=by
 have HBR:=hZ (mN T r w b hT.b hb);have KF:Hid (∀W,Gr w W->Calls prog 70 #[.pointer (some ⟨T.TB,0,none⟩),.int .i64 b,.int .i64 from_] W fun e w'=>∃v,e=.returned v/\w'.ownsRow W.heap.size 97 2 v (lX s b from_).length (hG (lX s b from_))/\Gr W w'):=fun W g=>Ju (hT.gr g) hm hb hs from_;have hnb:=hT.b.nb8;have LOW:Hid (∀(W w':World)(v:Value)(n:Nat)(xs:List Value),Gr w W->w'.ownsRow W.heap.size 97 2 v n xs->w'.ownsRow w.heap.size 97 2 v n xs):=fun W w' v n xs g o=>⟨o.1,o.2.imp id (fun⟨a1,a2,a3,a4,a5,a6⟩=>⟨a1,a2,a3,a4,aA g.size a5,a6⟩)⟩;generalize lX s b from_=KS at *;rcases hf with rfl|⟨a,rfl,hab⟩
 ·clear hT hm hs;go_enter func64,ntmps64;go_wp2_with fail;refine HBR.mono ?_;rintro e w1 ⟨rfl,g1⟩;have KF1:=hZ (KF w1 g1);have G1:=hZ g1;clear HBR g1 KF;go_wp2_with fail;refine KF1.mono ?_;rintro e w2 ⟨v,rfl,o2,g2⟩;have O2:=hZ (LOW _ _ _ _ _ G1.out o2);have G2:=hZ (Gr.call G1.out g2);obtain⟨va,vm,vk,rfl⟩:=gL o2;clear KF1 o2 g2;go_wp2_with fail;go_ret2;exact⟨_,rfl,O2.out,G2.out⟩
 ·have hlt:=hT.b.adj b a hab;have HL:Hid (∀W,Gr w W->Calls prog 90 #[.pointer (some ⟨T.TB,0,none⟩),.int .i64 b,.int .i64 a] W fun e w'=>e=.returned (.bool true)/\w'=W):=fun W g=>Co (hT.gr g) ((b:Int),(a:Int)) ⟨by omega,by omega⟩ ⟨by omega,by omega⟩ true ⟨fun _=>⟨b,a,rfl,hab⟩,fun _=>rfl⟩;have hne:((a:Int)==-1)=false:=by simp
  clear hT hm hs;go_enter func64,ntmps64;go_wp2_with fail;refine HBR.mono ?_;rintro e w1 ⟨rfl,g1⟩;have KF1:=hZ (KF w1 g1);have HL1:=hZ (HL w1 g1);have G1:=hZ g1;clear HBR g1 KF HL;go_wp2_with fail;refine HL1.mono ?_;rintro e wx ⟨rfl,hw⟩;have hw':=hw.symm;clear hw HL1;subst hw';go_wp2_with fail;refine KF1.mono ?_;rintro e w2 ⟨v,rfl,o2,g2⟩;have O2:=hZ (LOW _ _ _ _ _ G1.out o2);have G2:=hZ (Gr.call G1.out g2);obtain⟨va,vm,vk,rfl⟩:=gL o2;clear KF1 o2 g2;go_wp2_with fail;go_ret2;exact⟨_,rfl,O2.out,G2.out⟩
theorem Yn(T:Tc)(r:Nat->Rl)(w:World)(cs:List (Pc (List Atr)))(s:Ts)(b:Nat)(from_:Int)(hT:Tf T r w cs s)(hb:b<T.nb)(hi:I64 from_)(h1:from_≠-1)(hf:∀a:Nat,from_=(a:Int)->T.adj b a=false):Calls prog 64 #[.pointer (some ⟨T.TB,0,none⟩),.int .i64 b,.int .i64 from_] w fun e w'=>e=.returned (.tuple #[.slice none 0 0,.int .i64 5])/\Gr w w':=by
 have HBR:=hZ (mN T r w b hT.b hb);have hnb:=hT.b.nb8;have HL:Hid (∀W,Gr w W->Calls prog 90 #[.pointer (some ⟨T.TB,0,none⟩),.int .i64 b,.int .i64 from_] W fun e w'=>e=.returned (.bool false)/\w'=W):=fun W g=>Co (hT.gr g) ((b:Int),from_) ⟨by omega,by omega⟩ hi false ⟨(fun h=>by cases h),(fun⟨x,y,e,hxy⟩=>by
  injection e with e1 e2;have:x=b:=by omega
  rw[this,hf y e2] at hxy;cases hxy)⟩
 have hne:(from_==-1)=false:=by simpa using h1
 clear hT;go_enter func64,ntmps64;go_wp2_with fail;refine HBR.mono ?_;rintro e w1 ⟨rfl,g1⟩;have HL1:=hZ (HL w1 g1);have G1:=hZ g1;clear HBR g1 HL;go_wp2_with fail;refine HL1.mono ?_;rintro e wx ⟨rfl,hw⟩;have hw':=hw.symm;clear hw HL1;subst hw';go_wp2_with fail;go_ret2;exact⟨rfl,G1.out⟩
open Go.Maps (Keyed)
theorem tJ(T:Tc)(r:Nat->Rl)(w:World)(b:Int)(h:Tb T r w)(hb:b<0\/(T.nb:Int)<=b):Calls prog 37 #[.pointer (some ⟨T.TB,0,none⟩),.int .i64 b] w fun e w'=>e=.returned (.bool false)/\Gr w w':=by
 have c0:=h.c0;have hnb:=h.nb8;by_cases h0:b<0
 ·go_enter func37,ntmps37;go_wp2_with fail;go_ret;exact⟨rfl,gZ⟩
 ·have h1:(T.nb:Int)<=b:=by omega
  have h2:(0:Int)<=b:=by omega
  clear hb h0;go_enter func37,ntmps37;go_wp2_with fail;go_ret;exact⟨gG (by simp;omega),gZ⟩
theorem Lb(T:Tc)(r:Nat->Rl)(w:World)(cls:List Cl)(s:Ts)(c b:Int)(hT:Tw T r w cls s)(hb:b<0\/(T.nb:Int)<=b):Calls prog 16 #[.pointer (some ⟨T.TB,0,none⟩),.int .i64 c,.int .i64 b] w fun e w'=>e=.returned (.int .i64 5)/\Gr w w':=by have HB:=hZ (tJ T r w b hT.b hb);clear hT hb;go_enter func16,ntmps16;go_wp2_with fail;refine HB.mono ?_;rintro e w1 ⟨rfl,g1⟩;have G1:=hZ g1;clear HB g1;go_wp2_with fail;go_ret;exact⟨rfl,G1.out⟩
theorem Eu(T:Tc)(r:Nat->Rl)(w:World)(cls:List Cl)(s:Ts)(b:Nat)(x:Cl)(hT:Tw T r w cls s)(hb:b<T.nb)(hx:x∈cls):Calls prog 16 #[.pointer (some ⟨T.TB,0,none⟩),.int .i64 x.num,.int .i64 b] w fun e w'=>e=.returned (.int .i64 6)/\Gr w w':=by have HB:=hZ (mN T r w b hT.b hb);have HT:=hZ hT;clear hT;go_enter func16,ntmps16;go_wp2_with fail;refine HB.mono ?_;rintro e w1 ⟨rfl,g1⟩;obtain⟨Xs,qs,hT1,hV⟩:=HT.gr g1;have hlu:=hT1.k.find hx;have c1:=hT1.b.c1;have G1:=hZ g1;clear HB g1 hT1 hV;go_wp2_with fail;go_ret;exact⟨rfl,G1.out⟩
theorem Tk.findNo{r:Nat->Rl}(h:Tk T r w cls){c:Int}(hc:I64 c)(hn:∀x∈cls,x.num≠c):(Instr.lookup 106 (.map (some T.CB)) (.int .i64 c) true).run prog w=.ok (.tuple #[.pointer none,.bool false]) w:=by
 obtain⟨es,clock,hmp⟩:=h.mp;obtain⟨lk,hlk⟩:=Zx c hc;have hno:∀v,(Value.int .i64 c,v)∉cls.map cv:=by intro v hv';obtain⟨x,hx,e⟩:=aC.1 hv';injection e with e1 e2;injection e1 with e1 e3;exact hn x hx e3
 exact Mp.look_no Tryz.keyedI underlying106 hmp hlk hno Tryz.zeroC true
theorem Iw(T:Tc)(r:Nat->Rl)(w:World)(cls:List Cl)(s:Ts)(c:Int)(b:Nat)(hT:Tw T r w cls s)(hc:I64 c)(hb:b<T.nb)(hn:∀x∈cls,x.num≠c)(hl:16<=cls.length)(hl2:cls.length<=1048576):Calls prog 16 #[.pointer (some ⟨T.TB,0,none⟩),.int .i64 c,.int .i64 b] w fun e w'=>e=.returned (.int .i64 7)/\Gr w w':=by
 have HB:=hZ (mN T r w b hT.b hb);have HT:=hZ hT;have HN:=hZ hn;have HC:=hZ hc;clear hT hn hc;go_enter func16,ntmps16;go_wp2_with fail;refine HB.mono ?_;rintro e w1 ⟨rfl,g1⟩;obtain⟨Xs,qs,hT1,hV⟩:=HT.gr g1;have hlu:=hT1.k.findNo HC.out HN.out;have c1:=hT1.b.c1;obtain⟨es,clock,hmp⟩:=hT1.k.mp;have hblk:=hmp.blk;have hsz:es.size=cls.length:=by have:=congrArg List.length hmp.ent;simpa using this
 have G1:=hZ g1;have hlen:(Builtin.len_ #[106] 3 #[.map (some T.CB)]).run prog w1=.ok (.int .i64 (cls.length:Nat)) w1:=by simp[Builtin.len_,run_underlying underlying106,getObj,Sem.run,hblk,hsz,goInt]
 have hl3:(16:Int)<=(cls.length:Int):=by omega
 clear HB g1 hT1 hV hmp hblk hsz;go_wp2_with fail;go_ret;exact⟨rfl,G1.out⟩
theorem Ah(T:Tc)(r:Nat->Rl)(w:World)(cls:List Cl)(s:Ts)(c id:Int)(v:Value)(hT:Tw T r w cls s)(hc:I64 c)(hn:∀x∈cls,x.num≠c):Calls prog 18 #[.pointer (some ⟨T.TB,0,none⟩),.int .i64 c,.int .i64 id,v] w fun e w'=>e=.returned (.int .i64 5)/\Gr w w':=by obtain⟨Xs,qs,hT1,hV⟩:=hT;have hlu:=hT1.k.findNo hc hn;have c1:=hT1.b.c1;clear hT1 hV hn;go_enter func18,ntmps18;go_wp2_with fail;go_ret;exact⟨rfl,gZ⟩
theorem Ag(T:Tc)(r:Nat->Rl)(w:World)(cls:List Cl)(s:Ts)(c id:Int)(hT:Tw T r w cls s)(hc:I64 c)(hn:∀x∈cls,x.num≠c):Calls prog 21 #[.pointer (some ⟨T.TB,0,none⟩),.int .i64 c,.int .i64 id] w fun e w'=>e=.returned (.int .i64 5)/\Gr w w':=by obtain⟨Xs,qs,hT1,hV⟩:=hT;have hlu:=hT1.k.findNo hc hn;have c1:=hT1.b.c1;clear hT1 hV hn;go_enter func21,ntmps21;go_wp2_with fail;go_ret;exact⟨rfl,gZ⟩
theorem Bg(T:Tc)(r:Nat->Rl)(w:World)(cls:List Cl)(s:Ts)(x:Cl)(id:Int)(f:List Wnt)(ad:Option Addr)(cap:Nat)(hT:Tw T r w cls s)(hx:x∈cls)(hl:f.length<=maxLen)(hf:oW w ad f)(hwf:∀y∈f,Wnt.Wf y)(hk:chk f≠0):Calls prog 18 #[.pointer (some ⟨T.TB,0,none⟩),.int .i64 x.num,.int .i64 id,.slice ad f.length cap] w fun e w'=>e=.returned (.int .i64 (chk f))/\Gr w w':=by
 obtain⟨Xs,qs,hT1,hV⟩:=hT;have hlu:=hT1.k.find hx;have c1:=hT1.b.c1;have CK:=hZ (sH f ad cap w hl hf hwf);have hk':(chk f==0)=false:=by simpa using hk
 generalize chk f=kk at *;clear hT1 hV hf;go_enter func18,ntmps18;go_wp2_with fail;refine CK.mono ?_;rintro e w1 ⟨rfl,g1⟩;have G1:=hZ g1;clear CK g1 hlu c1;go_wp2_with fail;go_ret;exact⟨rfl,G1.out⟩
theorem Vj(T:Tc)(r:Nat->Rl)(w:World)(cs:List (Pc (List Atr)))(s:Ts)(b from_:Int)(hT:Tf T r w cs s)(hb:b<0\/(T.nb:Int)<=b):Calls prog 64 #[.pointer (some ⟨T.TB,0,none⟩),.int .i64 b,.int .i64 from_] w fun e w'=>e=.returned (.tuple #[.slice none 0 0,.int .i64 5])/\Gr w w':=by have HBR:=hZ (tJ T r w b hT.b hb);clear hT hb;go_enter func64,ntmps64;go_wp2_with fail;refine HBR.mono ?_;rintro e w1 ⟨rfl,g1⟩;have G1:=hZ g1;clear HBR g1;go_wp2_with fail;go_ret2;exact⟨rfl,G1.out⟩
theorem aAB{home:Int->Nat}{Ks:List Ky}{s:Ts}{n:Nat}(h:Gd T nxt rank home Ks s cs n M)(c:Int):Gd T nxt rank home Ks s (cs.map (mW c)) n M:=⟨h.I,h.K,h.W,fun d hd=>by
  obtain⟨x,hx,rfl⟩:=aC.1 hd;have:=h.L x hx;have:=h.le;unfold mW;split
  ·exact⟨Int.le_refl _,by show(0:Int)+n<=M;omega,by simp⟩
  ·exact h.L x hx,h.le⟩
theorem Cd(adj:Nat->Nat->Bool)(nb a:Nat):∀k,k<=nb->(nbs adj nb a k).length=sm k (fun b=>if adj a b=true then 1 else 0)
 |0,_=>by simp[nbs,sm]
 |k+1,h=>by
  have ih:=Cd adj nb a k (by omega);show _=sm k _+_;cases hk:adj a k with
  |true=>rw[Lq (by omega) hk,aG,ih];simp[hk]
  |false=>rw[Sq hk,ih];simp[hk]
theorem zK(T:Tc)(s:Ts):∀k,(jG T s k).length=sm k (fun a=>sm T.nb fun b=>if T.adj a b=true then 1 else 0)
 |0=>by simp[jG,sm]
 |k+1=>by rw[wB,aG,zK T s k];show _=sm k _+_;congr 1;show _=sm T.nb fun b=>if T.adj k b=true then 1 else 0;rw[<-Cd T.adj T.nb k T.nb lZ];simp[lk1]
theorem Oq(S:Sh T nxt rank)(hp:0<T.nb)(s:Ts):(jG T s T.nb).length+2=2*T.nb:=by rw[zK];exact Gj S.N S.Z S.R hp
theorem aAK(n:Int)(es:List Ky)(ad:Option Addr)(cap:Nat)(w:World)(hl:es.length<=maxLen)(h:pW w ad es)(hI:∀e∈es,I64 e.1/\I64 e.2)(ht:jD n es=false):Calls prog 13 #[.int .i64 n,.slice ad es.length cap] w fun e w'=>e=.returned (.tuple #[.pointer none,.int .i64 4])/\Gr w w':=by have IS:=hZ (zS n es ad cap w hl h hI);rw[ht] at IS;clear h hI ht;go_enter func13,ntmps13;go_wp2_with fail;refine IS.mono ?_;rintro e w1 ⟨rfl,g1⟩;have G1:=hZ g1;clear IS g1;go_wp2_with fail;exact bodyPost_ret (v:=.tuple #[.pointer none,.int .i64 4]) (by simp[results,results13,go_sem]) rfl ⟨rfl,G1.out⟩
theorem Rw.start{R:Nat->Rl}{es:List Ky}{lv:Value}(h:Rt A C R w (fun _=>(none,0)) (fun _=>[]) lv Ls (.slice none 0 0) [])(hnb:C.nb=T.nb)(hav:Ls.map Rln.av=(lkA es C.nb C.nb).map (fun p=>⟨p.1,p.2,[],[]⟩))(hg:tQ (fun b=>b) es)(hE:∀a b,T.adj a b=true↔oX es a b):Rw A C T R w [] (TS.none (List Wnt) (List Atr)):=by refine⟨_,_,_,Ls,_,[],h,hnb,⟨fun b _=>rfl,?_⟩,rfl⟩;rw[hav,hnb,Xl hg hE];unfold jC;refine cC fun p _=>?_;rfl
theorem Rv.fromM{s:Ts}(h:Rv T Xs Ls s){b:Nat}(hb:b<T.nb)(from_:Int):fromM from_ (Xs b)=lX s b from_:=by unfold Go.Proofs.YtecnfgikbmcgoabGreat.fromM lX;rw[<-h.held b hb,List.filter_map,bV];rfl
theorem Rv.isLk{s:Ts}(h:Rv T Xs Ls s)(hadj:∀a b,T.adj a b=true->a<T.nb/\b<T.nb)(b:Nat)(from_:Int):Ls.any (isLk b from_)=true↔∃a:Nat,from_=(a:Int)/\T.adj b a=true:=by
 rw[bT];constructor
 ·rintro⟨l,hl,hk⟩;obtain⟨k,hk',rfl⟩:=bG hl;have e:(Ls.map Rln.av)[k]?=some (Ls[k]).av:=by rw[aO,aJ hk'];rfl
  rw[h.lk] at e;obtain⟨_,h2,_⟩:=kR e;simp only[Go.Proofs.YtecnfgikbmcgoabGreat.isLk,aP,beq_iff_eq,dX] at hk;simp only[Rln.av] at h2;exact⟨_,hk.2.symm,by rw[<-hk.1];exact h2⟩
 ·rintro⟨a,rfl,hab⟩;obtain⟨h1,h2⟩:=hadj b a hab;obtain⟨k,hk,hav,_⟩:=h.find h1 h2 hab;obtain⟨e1,e2,_⟩:=Ic hav;refine⟨gE Ls k,kG hk,?_⟩;simp only[Go.Proofs.YtecnfgikbmcgoabGreat.isLk,aP,beq_iff_eq,dX];exact⟨e1,e2⟩
theorem Lp(A:Nat->Prop)(C:Rc)(T:Tc)(R:Nat->Rl)(w:World)(cs:List (Pc (List Atr)))(s:Ts)(b:Nat)(from_:Int)(hT:Rw A C T R w cs s)(hb:b<T.nb)(hm:Sm T s)(hadj:∀a b,T.adj a b=true->a<T.nb/\b<T.nb)(hlk:(lks T).length<=14)(c:Bool)(hc:c=true↔from_=-1\/∃a:Nat,from_=(a:Int)/\T.adj b a=true):Calls prog 65 #[.pointer (some ⟨C.TB,0,none⟩),.int .i64 b,.int .i64 from_] w fun e w'=>HfP c e w w' (lX s b from_)/\Gr w w':=by
 obtain⟨ads,Xs,lv,Ls,cv,rc,rt,hnb,rv,_⟩:=hT;obtain⟨la,lc,rfl⟩:=rt.lshape;have hLl:Ls.length<=14:=by have:=congrArg List.length rv.lk;rw[aB,mD] at this;omega
 have hbC:b<C.nb:=by omega
 have hXl:(Xs b).length<=1048576:=by have e:=congrArg List.length (rv.held b hb);rw[aB] at e;rw[e];exact hm.h _ hb
 have:=Ea C.TB C.HB C.nb C.hcap la lc Ls hLl (ads b).1 (ads b).2 (Xs b) b hbC from_ w rt.c0 rt.c1 rt.tlt rt.hlt rt.l.lk.rowAt (rt.hbc hbC) (rt.h.row b hbC).at' hXl;rw[rv.fromM hb] at this;have ec:((from_==-1)||Ls.any (isLk b from_))=c:=by rw[eL,hc,cN,beq_iff_eq,rv.isLk hadj b from_]
 rw[ec] at this;exact this
theorem Od(A:Nat->Prop)(C:Rc)(T:Tc)(R:Nat->Rl)(w:World)(cs:List (Pc (List Atr)))(s:Ts)(b from_:Int)(hT:Rw A C T R w cs s)(hb:b<0\/(T.nb:Int)<=b):Calls prog 65 #[.pointer (some ⟨C.TB,0,none⟩),.int .i64 b,.int .i64 from_] w fun e w'=>e=.returned (.tuple #[.slice none 0 0,.int .i64 5])/\w'=w:=by obtain⟨ads,Xs,lv,Ls,cv,rc,rt,hnb,rv,_⟩:=hT;exact Eb C.TB C.HB C.nb C.hcap w b from_ rt.c0 (by omega)
theorem Ai(T:Tc)(r:Nat->Rl)(w:World)(cls:List Cl)(s:Ts)(x:Cl)(id:Int)(f:List Wnt)(ad:Option Addr)(cap:Nat)(hT:Tw T r w cls s)(hx:x∈cls)(hid:I64 id)(hf:FiM w ad f)(hs:∀b,b<T.nb->Srt (s.held b))(hn:∀g∈s.held x.at',g.key≠(x.num,id))(hm:Sm T s)(hc:64<=nCl T s):Calls prog 18 #[.pointer (some ⟨T.TB,0,none⟩),.int .i64 x.num,.int .i64 id,.slice ad f.length cap] w fun e w'=>e=.returned (.int .i64 7)/\Gr w w':=by
 obtain⟨Xs,qs,hT,hV⟩:=hT;have hnum:=(hT.k.num x hx).1;have hb:=(hT.k.num x hx).2;have hnb:=hT.b.nb8;have hlu:=hT.k.find hx;have c1:=hT.b.c1;obtain⟨fb,fo,rfl,hfb,hfa⟩:=hf.at';have hlen:=hf.len;have hchk:chk f=0:=by simp[chk,hf.ok]
 have CK:=hZ (sH f (some ⟨fb,fo,none⟩) cap w (by unfold maxLen;omega) (Or.inr ⟨fb,fo,rfl,hfb,hfa⟩) hf.wf);rw[hchk] at CK;have HT:=hZ hT;have HV:=hZ hV;have HF:=hZ hf;have HS:=hZ hs;have HN:=hZ hn;have HM:=hZ hm;have HC:=hZ hc;have HX:=hZ hx;have HI:=hZ (And.intro hnum hid);clear hT hV hf hs hn hm hc hx hnum hid hfa hchk;go_enter func18,ntmps18;go_wp2_with fail;refine CK.mono ?_;rintro e w1 ⟨rfl,g1⟩;have ga:=g1.alloc (.cells #[.int .i64 x.num,.int .i64 id] 97);have HB:=fY w1 (.cells #[.int .i64 x.num,.int .i64 id] 97);have hsz:(w1.alloc (.cells #[.int .i64 x.num,.int .i64 id] 97)).heap.size=w1.heap.size+1:=by simp
 have G1:=hZ ga;have HHB:=hZ HB;clear CK g1 ga HB hlu c1;go_wp2_with fail;generalize(w1.alloc (.cells #[.int .i64 x.num,.int .i64 id] 97))=W1 at *;have T1:=HT.gr G1.out;obtain⟨es,clock,hmp⟩:=(T1.h.at' x.at' hb).2;obtain⟨lk,hlk⟩:=Jv (x.num,id) HI.1 HI.2;have hno:∀v,(pk (x.num,id),v)∉(Xs x.at').map mv:=by intro v hv';obtain⟨y,hy,e⟩:=aC.1 hv';injection e with e1 e2;exact HN y.1 ((HV.held _ hb _).2 ⟨y,hy,rfl⟩) (mT e1)
 have gz:Gr W1 (W1.alloc (.cells #[.int .i64 0,.int .i64 0,.slice none 0 0,.int .i64 0] 124)):=(Gr.refl W1).alloc _;have hlu:=Mp.look_no Tryz.keyedK underlying111 (hmp.kept (w':=W1.drew) rfl) hlk hno Tryz.zeroHd true;have hlu2:=Mp.look_no Tryz.keyedK underlying111 (hmp.kept (w':=(W1.alloc (.cells #[.int .i64 0,.int .i64 0,.slice none 0 0,.int .i64 0] 124)).drew) (gz.block _ hmp.lt)) hlk hno Tryz.zeroHd true;unfold pk at hlu hlu2;have hTB:=T1.tlt;have hHB:=T1.hlt;have hws:w1.heap.size<W1.heap.size:=by omega
 have c0:=T1.b.c0;have cb:=T1.b.hb x.at' hb;obtain⟨hcr,hcb⟩:=T1.k.blk x HX.out;have hclt:=fZ hcb;have k0:W1.cell? ⟨w1.heap.size,0,none⟩=some (.int .i64 x.num):=by rw[cZ HHB.out];rfl
 have k1:W1.cell? ⟨w1.heap.size,1,none⟩=some (.int .i64 id):=by rw[cZ HHB.out];rfl
 have ka:W1.cell? ⟨x.blk,0,none⟩=some (.int .i64 x.at'):=by rw[cZ hcb];rfl
 have c0':=(gz.cell (p:=⟨T.TB,0,none⟩) hTB).trans c0;have cb':=(gz.cell (p:=⟨T.HB,x.at',none⟩) hHB).trans cb;have k0':=(gz.cell (p:=⟨w1.heap.size,0,none⟩) hws).trans k0;have k1':=(gz.cell (p:=⟨w1.heap.size,1,none⟩) hws).trans k1;have ka':=(gz.cell (p:=⟨x.blk,0,none⟩) hclt).trans ka;have HT1:=hZ T1;have HCB:=hZ hcb;clear T1 hmp hno gz hcr hcb;go_region;all_goals
  clear hlu hlu2 c0' cb' k0' k1' ka' c0 cb k0 k1 ka;have gz:Gr W1 (W1.alloc (.cells #[.int .i64 0,.int .i64 0,.slice none 0 0,.int .i64 0] 124)).drew:=((Gr.refl W1).alloc _).drew;have G2:=hZ (Gr.call G1.out gz);have HK2:=hZ (gK gz HHB.out);have T2:=HT1.gr gz;have FC:=Cp T2 HV.out HS.out HM.out;have HFC:=hZ FC;have hcc:=HC.out;clear gz T2 FC;go_wp2_with fail;generalize(W1.alloc (.cells #[.int .i64 0,.int .i64 0,.slice none 0 0,.int .i64 0] 124)).drew=W2 at *;refine HFC.mono ?_;rintro e w3 ⟨rfl,g3⟩;have G3:=hZ (Gr.call G2.out g3);have HK3:=hZ (gK g3 HK2.out);have hcc':(64:Int)<=(nCl T s:Int):=by omega
  clear HFC g3;go_wp2_with fail;go_ret;exact⟨rfl,G3.out⟩
theorem Tw.lookNone{r:Nat->Rl}{s:Ts}(h:Tw T r w cls s){a b:Int}(ha:I64 a)(hb:I64 b)(hn:∀x y:Nat,(x:Int)=a->(y:Int)=b->T.adj x y=true->s.q x y=[]):∃va vc,∀n:Nat,(Instr.lookup 107 (.map (some T.LB)) (.agg #[.int .i64 a,.int .i64 b]) false).run prog (w.drewN n)=.ok (.slice va 0 vc) (w.drewN n):=by
 by_cases hx:∃x y:Nat,(x:Int)=a/\(y:Int)=b/\T.adj x y=true
 ·obtain⟨x,y,rfl,rfl,hxy⟩:=hx;obtain⟨Xs,qs,h1,h2⟩:=h;obtain⟨m,es,clock,hmp,_,hall,hev⟩:=h1.l.lk;obtain⟨v,hv⟩:=hev x y hxy;obtain⟨a',b',e,_,hQ⟩:=hall _ v hv;have:=mT e;simp only[cP,dX] at this;rw[<-this.1,<-this.2] at hQ;have hq0:(qs x y).length=0:=by rw[uC h2,hn x y rfl rfl hxy];rfl
  rw[hq0] at hQ;obtain⟨va,vc,rfl⟩:=hQ.shape;obtain⟨lk,hlk⟩:=Bc ((x:Int),(y:Int)) ha hb;exact⟨va,vc,fun n=>Mp.look_yes Tryz.keyedE underlying107 (hmp.kept (by rw[World.heap_drewN])) hlk hv false⟩
 ·obtain⟨Xs,qs,h1,h2⟩:=h;obtain⟨m,es,clock,hmp,_,hall,hev⟩:=h1.l.lk;obtain⟨lk,hlk⟩:=Bc (a,b) ha hb;have hno:∀v,(pk (a,b),v)∉m:=fun v hv=>by obtain⟨x,y,e,hxy,_⟩:=hall _ v hv;have:=mT e;simp only[cP] at this;exact hx ⟨x,y,this.1.symm,this.2.symm,hxy⟩
  exact⟨none,0,fun n=>Mp.look_no Tryz.keyedE underlying107 (hmp.kept (by rw[World.heap_drewN])) hlk hno Tryz.zeroQ false⟩
theorem Pz(T:Tc)(r:Nat->Rl)(w:World)(cls:List Cl)(s:Ts)(a b:Int)(hT:Tw T r w cls s)(ha:I64 a)(hb:I64 b)(hn:∀x y:Nat,(x:Int)=a->(y:Int)=b->T.adj x y=true->s.q x y=[]):Calls prog 26 #[.pointer (some ⟨T.TB,0,none⟩),.int .i64 a,.int .i64 b] w fun e w'=>e=.returned (.int .i64 5)/\Gr w w':=by
 have ga:Gr w (w.alloc (.cells #[.int .i64 a,.int .i64 b] 30)):=(Gr.refl w).alloc _;have HB:=fY w (.cells #[.int .i64 a,.int .i64 b] 30);have hT1:=hT.gr ga;obtain⟨va,vc,hlu⟩:=hT1.lookNone ha hb hn;have hc2:=hT1.b.c2;have ka0:(w.alloc (.cells #[.int .i64 a,.int .i64 b] 30)).cell? ⟨w.heap.size,0,none⟩=some (.int .i64 a):=by rw[cZ HB];rfl
 have ka1:(w.alloc (.cells #[.int .i64 a,.int .i64 b] 30)).cell? ⟨w.heap.size,1,none⟩=some (.int .i64 b):=by rw[cZ HB];rfl
 have GA:=hZ ga;have hTB:=hT1.tlt;clear hT hn hT1 ga HB;go_enter func26,ntmps26;go_wp2_with fail;generalize(w.alloc (.cells #[.int .i64 a,.int .i64 b] 30))=W1 at *;go_quiet(fail);have G2:=hZ (GA.drewN nq);clear hlu ka0 ka1 hc2;go_wp2_with fail;go_ret;exact⟨rfl,G2.out⟩
open Classical in
noncomputable def cz (r R:Nat->Rl) (E:Nat->Prop):Nat->Rl:=fun k=>if r k=.no/\R k=.no/\¬E k then .no else .lm
theorem Uk{r R:Nat->Rl}{E:Nat->Prop}{k:Nat}:(cz r R E k=.no\/cz r R E k=.fx)↔r k=.no/\R k=.no/\¬E k:=by
 unfold cz;split
 ·rename_i h;exact⟨fun _=>h,fun _=>Or.inl rfl⟩
 ·rename_i h;refine⟨fun e=>?_,fun e=>absurd e h⟩;rcases e with e|e<;>cases e
theorem Fr.czl{r r' R:Nat->Rl}(h:Fr r r' w w')(E:Nat->Prop):Fr (cz r R E) (cz r' R E) w w':=⟨h.os,h.tape,h.output,h.size,fun k hk hr=>h.keep k hk (Or.inl (Uk.1 hr).1),fun k hk=>by unfold cz;rw[h.same k hk]⟩
theorem Fr.czr{r R R':Nat->Rl}(h:Fr R R' w w')(E:Nat->Prop):Fr (cz r R E) (cz r R' E) w w':=⟨h.os,h.tape,h.output,h.size,fun k hk hr=>h.keep k hk (Or.inl (Uk.1 hr).2.1),fun k hk=>by unfold cz;rw[h.same k hk]⟩
theorem Rw.top{R:Nat->Rl}{s:Ts}(h:Rw A C T R w cs s):(∀k,w.heap.size<=k->R k=.no)/\∀k,A k->k<w.heap.size:=by obtain⟨ads,Xs,lv,Ls,cv,rs,h1,_⟩:=h;exact⟨h1.b.top,h1.b.aL⟩
def Cg:Array Value:=#[.slice none 0 0,.slice none 0 0,.slice none 0 0,.slice none 0 0]
structure Pr(A:Nat->Prop)(T:Tc)(C:Rc)(r R:Nat->Rl)(LB PB BB:Nat)(w:World)(cs:List (Pc (List Atr)))(s:Ts):Prop where
 p:Tf T r w cs s
 q:Rw A C T R w cs s
 ap:∀k,r k=.no\/R k=.no
 ar:∀k,A k->r k=.no
 R0:R 0=.no
 pb:w.heap[PB]?=some (.cells #[.pointer (some ⟨T.TB,0,none⟩),.pointer (some ⟨C.TB,0,none⟩),.pointer (some ⟨LB,0,none⟩),.pointer (some ⟨BB,0,none⟩)] 55 (0,0))
 np:r PB=.no/\R PB=.no
section
variable {A:Nat->Prop}{T:Tc}{C:Rc}{r R:Nat->Rl}{LB PB BB:Nat}{w:World}{cs:List (Pc (List Atr))}{s:Ts}
theorem Pr.gr(h:Pr A T C r R LB PB BB w cs s)(g:Gr w w'):Pr A T C r R LB PB BB w' cs s:=⟨h.p.gr g,h.q.gr g,h.ap,h.ar,h.R0,gK g h.pb,h.np⟩
theorem Pr.apart(h:Pr A T C r R LB PB BB w cs s){z z':Nat->Rl}(g:Fr z z' w w')(hr:∀k,r k=.no\/z k=.no)(hR:∀k,R k=.no\/z k=.no)(hA:∀k,A k->z k=.no)(h0:z 0=.no)(hp:z PB=.no):Pr A T C r R LB PB BB w' cs s:=⟨h.p.apart g hr h0,h.q.apart g hR hA,h.ap,h.ar,h.R0,(g.keep PB (fZ h.pb) (Or.inl hp)).trans h.pb,h.np⟩
theorem Pr.mid(h:Pr A T C r R LB PB BB w cs s){w1:World}(g:Fr r r1 w w1):Rw A C T R w1 cs s:=h.q.apart g (fun k=>(h.ap k).symm) h.ar
theorem Pr.both(h:Pr A T C r R LB PB BB w cs s){R2:Nat->Rl}{w1:World}{cs':List (Pc (List Atr))}{s':Ts}(g1:Fr r r1 w w1)(p1:Tf T r1 w1 cs' s')(g2:Fr R R2 w1 w2)(q2:Rw A C T R2 w2 cs' s')(E:Nat->Prop):Pr A T C r1 R2 LB PB BB w2 cs' s'/\Fr (cz r R E) (cz r1 R2 E) w w2:=by
 have t1:=h.q.top.1;have tA:=h.q.top.2;have l0:0<w.heap.size:=h.p.b.ml.pos;have ap1:∀k,r1 k=.no\/R k=.no:=fun k=>by
  rcases cG k w.heap.size with hk|hk
  ·rw[g1.same k hk];exact h.ap k
  ·exact Or.inr (t1 k hk)
 have kp:=fZ h.pb;have kp1:=aF kp g1.size;have pb1:=(g1.keep PB kp (Or.inl h.np.1)).trans h.pb;refine⟨⟨p1.apart g2 ap1 h.R0,q2,fun k=>?_,fun k hk=>by rw[g1.same k (tA k hk)];exact h.ar k hk,by rw[g2.same 0 (aF l0 g1.size)];exact h.R0,(g2.keep PB kp1 (Or.inl h.np.2)).trans pb1,⟨by rw[g1.same PB kp];exact h.np.1,by rw[g2.same PB kp1];exact h.np.2⟩⟩,(g1.czl E).trans (g2.czr E)⟩;rcases cG k w1.heap.size with hk|hk
 ·rw[g2.same k hk];exact ap1 k
 ·exact Or.inl (p1.b.top k hk)
end
theorem nU(n:Int)(w:World):Calls prog 15 #[.int .i64 n] w fun e w'=>e=.returned (.int .i64 n)/\w'=w:=by go_enter func15,ntmps15;go_wp2_with fail;go_ret;exact⟨rfl,rfl⟩
structure St(A:Nat->Prop)(T:Tc)(C:Rc)(r R:Nat->Rl)(LB PB BB:Nat)(B D:Nat->Prop)(L M:Nat)(w:World)(cs:List (Pc (List Atr)))(s:Ts):Prop where
 pr:Pr A T C r R LB PB BB w cs s
 bo:Bo BB B L w
 le:Le A LB D M w
 sB:∀k,B k->r k=.no/\R k=.no/\¬D k/\¬A k/\k≠PB/\k≠0
 sD:∀k,D k->r k=.no/\R k=.no/\¬A k/\k≠PB/\k≠0
theorem Bn.old{b0 b1 k:Nat}(hk:k<b0)(h:Bn B b0 b1 k):B k:=h.elim id (fun e=>absurd e.1 (by omega))
def Oz(r R:Nat->Rl)(B D:Nat->Prop):Nat->Prop:=fun k=>r k≠.no\/R k≠.no\/B k\/D k
section
variable {A:Nat->Prop}{T:Tc}{C:Rc}{r R:Nat->Rl}{LB PB BB:Nat}{B D:Nat->Prop}{L M:Nat}{w:World}{cs:List (Pc (List Atr))}{s:Ts}
theorem St.gr(h:St A T C r R LB PB BB B D L M w cs s)(g:Gr w w'):St A T C r R LB PB BB B D L M w' cs s:=⟨h.pr.gr g,h.bo.gr g,h.le.gr g,h.sB,h.sD⟩
theorem St.kept(h:St A T C r R LB PB BB B D L M w cs s){w1:World}{e:Ending}(g:Gr w w1)(k:It BB B L w.heap.size w1 e w2):St A T C r R LB PB BB (Bn B w.heap.size w2.heap.size) D (L+4) M w2 cs s/\Kx (Oz r R B D) w w2:=by
 obtain⟨he,kb,kx⟩:=k;have tr:=h.pr.p.b.top;have tR:=h.pr.q.top.1;have tA:=h.pr.q.top.2;have tp:=fZ h.pr.pb;have t0:0<w.heap.size:=h.pr.p.b.ml.pos;have tD:=h.le.lt;have h1:=h.gr g;have hno:∀k,(B k\/w.heap.size<=k)->r k=.no/\R k=.no/\¬D k/\¬A k/\k≠PB/\k≠0:=fun k hk=>by
  rcases hk with hk|hk
  ·exact h.sB k hk
  ·exact⟨tr k hk,tR k hk,fun c=>absurd (tD k c) (by omega),fun c=>absurd (tA k c) (by omega),by omega,by omega⟩
 have a1:=h1.pr.apart kx.fr (fun k=>by
  by_cases e:B k\/w.heap.size<=k
  ·exact Or.inl (hno k e).1
  ·exact Or.inr (kS e)) (fun k=>by
  by_cases e:B k\/w.heap.size<=k
  ·exact Or.inl (hno k e).2.1
  ·exact Or.inr (kS e)) (fun k hk=>kS (fun e=>(hno k e).2.2.2.1 hk)) (kS (fun e=>(hno 0 e).2.2.2.2.2 rfl)) (kS (fun e=>(hno PB e).2.2.2.2.1 rfl))
 refine⟨⟨a1,kb,h1.le.apart kx (fun k hk e=>(hno k e).2.2.1 hk) (fun k hk e=>(hno k e).2.2.2.1 hk),fun k hk=>hno k (hk.imp id And.left),h.sD⟩,(Kx.gr g).trans kx (fun k hk e=>?_)⟩;rcases e with e|e
 ·exact Or.inr (Or.inr (Or.inl e))
 ·omega
end
theorem Gg(T:Tc)(s:Ts):jG T s T.nb=(lks T).map fun p=>(p.1,p.2,(s.q p.1 p.2).length):=by unfold jG lks;rw[List.map_flatMap];congr 1;funext a;rw[bV];rfl
theorem Xg{s:Ts}(h:Ls.map Rln.av=jC T s):jG T s T.nb=Ls.map fun l=>(l.fr,l.to,l.q.length):=by
 have e:=congrArg (List.map fun x:Al=>(x.fr,x.to,x.q.length)) h;rw[bV,jC,bV] at e;rw[Gg];refine(Eq.trans ?_ e.symm).trans ?_
 ·rfl
 ·refine cC fun l _=>?_;simp[Rln.av]
def LkA(TB:Nat)(w:World)(X:List Lw):Prop:=∃la lc,w.cell? ⟨TB,1,none⟩=some (.slice la X.length lc)/\∀j,j<X.length->∃b off qa qc ta tn tc,la=some ⟨b,off,none⟩/\w.cell? ⟨b,off+j*4,none⟩=some (.int .i64 ((lat X j).1:Int))/\w.cell? ⟨b,off+j*4+1,none⟩=some (.int .i64 ((lat X j).2.1:Int))/\w.cell? ⟨b,off+j*4+1+1,none⟩=some (.slice qa (lat X j).2.2 qc)/\w.cell? ⟨b,off+j*4+1+1+1,none⟩=some (.slice ta tn tc)
theorem Rw.lkA{R:Nat->Rl}{s:Ts}(h:Rw A C T R w cs s):LkA C.TB w (jG T s T.nb):=by
 obtain⟨ads,Xs,lv,Ls,cv,rs,rt,hnb,rv,_⟩:=h;obtain⟨la,lc,rfl⟩:=rt.lshape;rw[Xg rv.lk];refine⟨la,lc,by rw[aB];exact rt.c1,fun j hj=>?_⟩;rw[aB] at hj;obtain⟨b,off,e,_,d0,d1,d2,d3⟩:=rt.l.lk.rowAt.lnk hj;have hk:lat (Ls.map fun l=>(l.fr,l.to,l.q.length)) j=((gE Ls j).fr,(gE Ls j).to,(gE Ls j).q.length):=by unfold lat gE;simp only[aI,aO,aJ hj,dE,eV]
 rw[hk];exact⟨b,off,_,_,_,_,_,e,d0,d1,d2,d3⟩
theorem St.links{r R:Nat->Rl}{LB:Nat}{L:Nat}{s:Ts}(h:St A T C r R LB PB BB B D L M w cs s)(hm:Sm T s)(hL:L<=1099511627776):Calls prog 31 #[.pointer (some ⟨PB,0,none⟩)] w fun e w'=>e=.returned (.bool true)/\∃B',(∀k,k<w.heap.size->B' k->B k)/\St A T C r R LB PB BB B' D (L+4) M w' cs s/\Kx (Oz r R B D) w w':=by
 obtain⟨cls,hTw,_⟩:=h.pr.p;have LK:=hZ (Cu T r w cls s hTw hm);have RL1:Hid (∀W,Gr w W->LkA C.TB W (jG T s T.nb)):=fun W g=>(h.pr.q.gr g).lkA;have hXl:(jG T s T.nb).length<=64:=by have h1:=uX T s T.nb;have h2:=hTw.b.nb8;have:T.nb*T.nb<=8*8:=eI h2 h2;omega
 have PC:Hid (∀W,Gr w W->W.cell? ⟨PB,0,none⟩=some (.pointer (some ⟨T.TB,0,none⟩))/\W.cell? ⟨PB,1,none⟩=some (.pointer (some ⟨C.TB,0,none⟩))/\W.cell? ⟨PB,3,none⟩=some (.pointer (some ⟨BB,0,none⟩))):=fun W g=>by have b:=gK g h.pr.pb;refine⟨?_,?_,?_⟩<;>(rw[cZ b];rfl)
 have KP:Hid (∀(W:World)(ad:Option Addr)(n cap:Nat)(xs:List Value),Gr w W->n<=64->W.ownsRow w.heap.size 94 3 (.slice ad n cap) n xs->Calls prog 63 #[.pointer (some ⟨BB,0,none⟩),.slice ad n cap] W fun e w'=>It BB B L w.heap.size W e w'):=fun W ad n cap xs g hn ho=>(h.bo.gr g).keepL hL g.size h.bo.lt (by omega) ho;have HS:=hZ h;obtain⟨p0,p1,p3⟩:=PC w gZ;clear h hTw hm;generalize jG T s T.nb=X at *;go_enter func31,ntmps31;go_wp2_with fail;refine LK.mono ?_;rintro e w1 ⟨v,rfl,ho,g1⟩;obtain⟨va,vc,rfl,hva⟩:=gH ho;have O1:=hZ ho;have HVA:=hZ hva;have G1:=hZ g1;clear ho hva g1 p0 p1 p3 LK;obtain⟨p0,p1,p3⟩:=PC w1 G1.out;obtain⟨la,lc,l1,_⟩:=RL1 w1 G1.out;go_wp2_with fail;clear p0 p1 p3 l1;go_loopw [4] (fun i wr=>∃q:Nat,q<=X.length/\i=.int .i64 q/\Hid (Gr w1 wr)) (fun i _=>X.length-(intOf i).toNat);case atStart=>exact⟨0,zZ,rfl,gZ⟩
 case round=>
  obtain⟨q,hq,rfl,G⟩:=hrel;obtain⟨p0,p1,p3⟩:=PC wr (Gr.call G1.out G.out);by_cases hlt:q<X.length
  ·obtain⟨g,rfl⟩:=HVA (by omega);(have CW:Hid (∀W,Gr w1 W->W.cell? ⟨g,q*3,none⟩=some (.int .i64 ((lat X q).1:Int))/\W.cell? ⟨g,q*3+1,none⟩=some (.int .i64 ((lat X q).2.1:Int))/\W.cell? ⟨g,q*3+1+1,none⟩=some (.int .i64 ((lat X q).2.2:Int))):=fun W gw=>by obtain⟨c0,c1,c2⟩:=wD X q hlt;have hXc:=O1.1;rw[<-aH (gO O1.out gw) _ (by omega)] at c0 c1 c2;exact⟨c0,c1,c2⟩);obtain⟨la',lc',l1,hl⟩:=RL1 wr (Gr.call G1.out G.out);obtain⟨b,off,qa,qc,ta,tn,tc,rfl,d0,d1,d2,d3⟩:=hl q hlt;clear hl;generalize lat X q=z at *;go_wp2_with fail;have GA:=hZ (G.alloc (.cells #[.int .i64 (z.1:Int),.int .i64 (z.2.1:Int),.slice qa z.2.2 qc,.slice ta tn tc] 117));have kb:(wr.alloc (.cells #[.int .i64 (z.1:Int),.int .i64 (z.2.1:Int),.slice qa z.2.2 qc,.slice ta tn tc] 117)).heap[wr.heap.size]?=some (.cells #[.int .i64 (z.1:Int),.int .i64 (z.2.1:Int),.slice qa z.2.2 qc,.slice ta tn tc] 117 (0,0)):=fY _ _;clear d0 d1 d2 d3 l1 p0 p1 p3;generalize wr.alloc (.cells #[.int .i64 (z.1:Int),.int .i64 (z.2.1:Int),.slice qa z.2.2 qc,.slice ta tn tc] 117)=W at *;obtain⟨c0,c1,c2⟩:=CW W GA.out;(have k0:W.cell? ⟨wr.heap.size,0,none⟩=some (.int .i64 (z.1:Int)):=by rw[cZ kb];rfl);(have k1:W.cell? ⟨wr.heap.size,1,none⟩=some (.int .i64 (z.2.1:Int)):=by rw[cZ kb];rfl);(have k2:W.cell? ⟨wr.heap.size,2,none⟩=some (.slice qa z.2.2 qc):=by rw[cZ kb];rfl);clear kb CW;generalize wr.heap.size=KB at *;go_quiet(fail);have G2:=hZ (GA.drewN nq);clear c0 c1 c2 k0 k1 k2 GA;go_wp2_with fail;exact⟨⟨q+1,hlt,by simp,G2⟩,gD _ _ hlt⟩
  ·(have hqe:q=X.length:=by omega);subst hqe;have KQ:=hZ (KP wr va X.length vc _ (Gr.call G1.out G.out) hXl (gO O1.out G.out));have GW:=hZ (Gr.call G1.out G.out);clear PC KP RL1 O1 HVA G1 G;go_wp2_with fail;refine KQ.mono ?_;rintro e w2 hk;have h3:=hk.1;subst h3;have K3:=hZ (HS.kept GW.out hk);clear hk KQ GW HS;go_wp2_with fail;go_ret;exact⟨rfl,_,fun k hk hb=>Bn.old hk hb,K3.out⟩
def aBF(T:TypeId)(KS:List Ky)(code:Int)(w:World)(e:Ending)(w':World):Prop:=∃v,e=.returned (.tuple #[v,.int .i64 code])/\w'.ownsRow w.heap.size T 2 v KS.length (hG KS)/\Gr w w'
theorem Oy{r R:Nat->Rl}{LB:Nat}{s:Ts}(h:Pr A T C r R LB PB BB w cs s)(hm:Sm T s)(hs:∀b,b<T.nb->Srt (s.held b))(hadj:∀a b,T.adj a b=true->a<T.nb/\b<T.nb)(hlk:(lks T).length<=14)(b from_:Int)(hi:I64 from_):∃(KS:List Ky)(code:Int),KS.length<=1048576/\(∀W,Gr w W->Calls prog 64 #[.pointer (some ⟨T.TB,0,none⟩),.int .i64 b,.int .i64 from_] W fun e w'=>aBF 97 KS code W e w') /\∀W,Gr w W->Calls prog 65 #[.pointer (some ⟨C.TB,0,none⟩),.int .i64 b,.int .i64 from_] W fun e w'=>aBF 133 KS code W e w':=by
 by_cases hb:b<0\/(T.nb:Int)<=b
 ·refine⟨[],5,zZ,fun W g=>?_,fun W g=>?_⟩
  ·refine(Vj T r W cs s b from_ (h.p.gr g) hb).mono ?_;rintro e w' ⟨he,g1⟩;exact⟨_,he,bF _ _ _ _,g1⟩
  ·refine(Od A C T R W cs s b from_ (h.q.gr g) hb).mono ?_;rintro e w' ⟨he,rfl⟩;exact⟨_,he,bF _ _ _ _,gZ⟩
 ·obtain⟨n,rfl⟩:∃n:Nat,b=(n:Int):=⟨b.toNat,by omega⟩;have hn:n<T.nb:=by omega
  by_cases hc:from_=-1\/∃a:Nat,from_=(a:Int)/\T.adj n a=true
  ·refine⟨lX s n from_,0,?_,fun W g=>?_,fun W g=>?_⟩
   ·unfold lX;rw[aB];exact aA (aX _ _) (hm.h n hn)
   ·refine(Vi T r W cs s n from_ (h.p.gr g) hm hn (hs n hn) hc).mono ?_;rintro e w' ⟨v,he,ho,g1⟩;exact⟨v,he,ho,g1⟩
   ·refine(Lp A C T R W cs s n from_ (h.q.gr g) hn hm hadj hlk true ⟨fun _=>hc,fun _=>rfl⟩).mono ?_;rintro e w' ⟨hp,g1⟩;obtain⟨v,he,ho⟩:=hp.1 rfl;exact⟨v,he,ho,g1⟩
  ·refine⟨[],5,zZ,fun W g=>?_,fun W g=>?_⟩
   ·refine(Yn T r W cs s n from_ (h.p.gr g) hn hi (fun e=>hc (Or.inl e)) (fun a e=>?_)).mono ?_
    ·cases ha:T.adj n a with
     |false=>rfl
     |true=>exact absurd (Or.inr ⟨a,e,ha⟩) hc
    ·rintro e w' ⟨he,g1⟩;exact⟨_,he,bF _ _ _ _,g1⟩
   ·refine(Lp A C T R W cs s n from_ (h.q.gr g) hn hm hadj hlk false ⟨(fun e=>by cases e),fun e=>absurd e hc⟩).mono ?_;rintro e w' ⟨hp,g1⟩;exact⟨_,hp.2 rfl,bF _ _ _ _,g1⟩
theorem St.held{r R:Nat->Rl}{LB:Nat}{L:Nat}{s:Ts}(h:St A T C r R LB PB BB B D L M w cs s)(hm:Sm T s)(hs:∀b,b<T.nb->Srt (s.held b))(hadj:∀a b,T.adj a b=true->a<T.nb/\b<T.nb)(hlk:(lks T).length<=14)(hL:L<=1099511627776)(b from_:Int)(hi:I64 from_):Calls prog 32 #[.pointer (some ⟨PB,0,none⟩),.int .i64 b,.int .i64 from_] w fun e w'=>e=.returned (.bool true)/\∃B',(∀k,k<w.heap.size->B' k->B k)/\St A T C r R LB PB BB B' D (L+4) M w' cs s/\Kx (Oz r R B D) w w':=by
 obtain⟨X,code,hXl,HH,RH⟩:=Oy h.pr hm hs hadj hlk b from_ hi;have HH':=hZ HH;have RH':=hZ RH;clear HH RH;have PC:Hid (∀W,Gr w W->W.cell? ⟨PB,0,none⟩=some (.pointer (some ⟨T.TB,0,none⟩))/\W.cell? ⟨PB,1,none⟩=some (.pointer (some ⟨C.TB,0,none⟩))/\W.cell? ⟨PB,3,none⟩=some (.pointer (some ⟨BB,0,none⟩))):=fun W g=>by have b:=gK g h.pr.pb;refine⟨?_,?_,?_⟩<;>(rw[cZ b];rfl)
 have KP:Hid (∀(W:World)(ad:Option Addr)(n cap:Nat)(xs:List Value),Gr w W->n<=1048576->W.ownsRow w.heap.size 97 2 (.slice ad n cap) n xs->Calls prog 66 #[.pointer (some ⟨BB,0,none⟩),.slice ad n cap] W fun e w'=>It BB B L w.heap.size W e w'):=fun W ad n cap xs g hn ho=>(h.bo.gr g).keepY hL g.size h.bo.lt (by omega) ho;have HS:=hZ h;obtain⟨p0,p1,p3⟩:=PC w gZ;have H0:=hZ (HH' w gZ);clear h hm hs hadj hlk HH';go_enter func32,ntmps32;go_wp2_with fail;refine H0.mono ?_;rintro e w1 ⟨v,rfl,ho,g1⟩;obtain⟨va,vc,rfl,hva⟩:=gH ho;have O1:=hZ ho;have HVA:=hZ hva;have G1:=hZ g1;clear ho hva g1 p0 p1 p3 H0;obtain⟨p0,p1,p3⟩:=PC w1 G1.out;have R0:=hZ (RH' w1 G1.out);clear RH';go_wp2_with fail;refine R0.mono ?_;rintro e w2 ⟨v2,rfl,ho2,g2⟩;obtain⟨vb,vd,rfl,hvb⟩:=gH ho2;have O2:=hZ ho2;have HVB:=hZ hvb;have G2:=hZ g2;have O1:=hZ (gO O1.out g2);have GW:=hZ (Gr.call G1.out g2);clear ho2 hvb g2 p0 p1 p3 R0 G1;go_wp2_with fail;refine(nU code w2).mono ?_;rintro e w3 ⟨rfl,hw3⟩;have hw3':=hw3.symm;clear hw3;subst hw3';go_wp2_with fail;go_loopw [11] (fun i wr=>∃q:Nat,q<=X.length/\i=.int .i64 q/\Hid (Gr w2 wr)) (fun i _=>X.length-(intOf i).toNat);case atStart=>exact⟨0,zZ,rfl,gZ⟩
 case round=>
  obtain⟨q,hq,rfl,G⟩:=hrel;obtain⟨p0,p1,p3⟩:=PC wr (Gr.call GW.out G.out);by_cases hlt:q<X.length
  ·obtain⟨g,rfl⟩:=HVA (by omega);obtain⟨g',rfl⟩:=HVB (by omega);obtain⟨c1,c2⟩:=qH X q hlt;obtain⟨d1,d2⟩:=qH X q hlt;rw[<-aH (gO O1.out G.out) _ (by omega)] at c1 c2;rw[<-aH (gO O2.out G.out) _ (by omega)] at d1 d2;generalize eat X q=z at *;clear p0 p1 p3;go_wp2_with fail;go_quiet(fail);have G3:=hZ (G.drewN nq);clear c1 c2 d1 d2;go_wp2_with fail;exact⟨⟨q+1,hlt,by simp,G3⟩,gD _ _ hlt⟩
  ·(have hqe:q=X.length:=by omega);subst hqe;have KQ:=hZ (KP wr va X.length vc _ (Gr.call GW.out G.out) hXl (gO O1.out G.out));have GX:=hZ (Gr.call GW.out G.out);clear PC KP O1 O2 HVA HVB GW G G2;go_wp2_with fail;refine KQ.mono ?_;rintro e w5 hk;have h3:=hk.1;subst h3;have K3:=hZ (HS.kept GX.out hk);clear hk KQ GX HS;go_wp2_with fail;go_ret;exact⟨rfl,_,fun k hk hb=>Bn.old hk hb,K3.out⟩
end Go.Proofs.YtecnfgikbmcgoabGreat
