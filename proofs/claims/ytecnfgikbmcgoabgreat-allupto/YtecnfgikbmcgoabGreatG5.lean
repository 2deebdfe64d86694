import Derived.Test.YtecnfgikbmcgoabGreatG4
set_option maxHeartbeats 8000000
set_option maxRecDepth 100000
namespace Go.Proofs.YtecnfgikbmcgoabGreat
open Go.Proofs.Tryz
open Go.RowKit
variable {w:World}{α:Type}
def qI(x x':Wnt):Bool:=nX x.a x.y x.k x.n x.s x'.a x'.y x'.k x'.n x'.s
def cov(f g:List Wnt):Bool:=gN f&&gN g&&f.all fun x=>g.any fun v=>qI v x
theorem Iv(a:ByteArray)(y k n:Int)(s a':ByteArray)(y' k' n':Int)(s':ByteArray)(m:Int)(w:World)(ha:a.size<=maxLen)(ha':a'.size<=maxLen)(hlo:iI<=n)(hhi:n<=iM)(hM:Ml m w):Calls prog 137 #[.agg #[.string a,.int .i64 y,.int .i64 k,.int .i64 n,.string s],.agg #[.string a',.int .i64 y',.int .i64 k',.int .i64 n',.string s']] w
   fun e w'=>e=.returned (.bool (nX a y k n s a' y' k' n' s'))/\Gr w w':=by
 have Hlo:Hid (iI<=n):=hlo;have Hhi:Hid (n<=iM):=hhi;clear hlo hhi;cases h1:jK a y k n s
 ·have Hr:Hid (nX a y k n s a' y' k' n' s'=false):=by show _=_;simp[nX,h1]
  go_enter func137,ntmps137;go_wp2_with fail;refine(jT _ _ _ _ _ _ ha).mono ?_;rw[h1];rintro e w1 ⟨rfl,hb1⟩;go_wp2_with fail;go_ret;exact⟨gG (by rw[Hr.out]),Gr.call (((Gr.refl w).alloc _).alloc _) hb1⟩
 cases h2:jK a' y' k' n' s'
 ·have Hr:Hid (nX a y k n s a' y' k' n' s'=false):=by show _=_;simp[nX,h2]
  go_enter func137,ntmps137;go_wp2_with fail;refine(jT _ _ _ _ _ _ ha).mono ?_;rw[h1];rintro e w1 ⟨rfl,hb1⟩;obtain⟨hc1,hf1⟩:=gP hb1;go_wp2_with fail;refine(jT _ _ _ _ _ _ ha').mono ?_;rw[h2];rintro e w2 ⟨rfl,hb2⟩;go_wp2_with fail;go_ret;exact⟨gG (by rw[Hr.out]),Gr.call (Gr.call (((Gr.refl w).alloc _).alloc _) hb1) hb2⟩
 have Hw:Hid (gV y k n s=true):=by show _=_;simp[jK] at h1;exact h1.2
 have Hw':Hid (gV y' k' n' s'=true):=by show _=_;simp[jK] at h2;exact h2.2
 cases h3:(a.toList==a'.toList)
 ·have Hr:Hid (nX a y k n s a' y' k' n' s'=false):=by show _=_;simp[nX,h3]
  go_enter func137,ntmps137;go_wp2_with fail;refine(jT _ _ _ _ _ _ ha).mono ?_;rw[h1];rintro e w1 ⟨rfl,hb1⟩;obtain⟨hc1,hf1⟩:=gP hb1;have hz1:w.heap.size<w1.heap.size:=Gr.lt hb1 (by simp;omega);have hz1':w.heap.size+1<w1.heap.size:=Gr.lt hb1 (by simp);go_wp2_with fail;refine(jT _ _ _ _ _ _ ha').mono ?_;rw[h2];rintro e w2 ⟨rfl,hb2⟩;obtain⟨hc2,hf2⟩:=gP hb2;go_wp2_with fail;go_ret;exact⟨gG (by rw[Hr.out]),Gr.call (Gr.call (((Gr.refl w).alloc _).alloc _) hb1) hb2⟩
 ·have Hr:Hid (nX a y k n s a' y' k' n' s'=jB y k n s y' k' n' s'):=by show _=_;simp[nX,h1,h2,h3]
  go_enter func137,ntmps137;go_wp2_with fail;refine(jT _ _ _ _ _ _ ha).mono ?_;rw[h1];rintro e w1 ⟨rfl,hb1⟩;obtain⟨hc1,hf1⟩:=gP hb1;have hz1:w.heap.size<w1.heap.size:=Gr.lt hb1 (by simp;omega);have hz1':w.heap.size+1<w1.heap.size:=Gr.lt hb1 (by simp);go_wp2_with fail;refine(jT _ _ _ _ _ _ ha').mono ?_;rw[h2];rintro e w2 ⟨rfl,hb2⟩;obtain⟨hc2,hf2⟩:=gP hb2;go_wp2_with fail;refine(Iy _ _ _ _ _ _ _ _ _ _ m _ Hw Hw' Hlo Hhi (Gr.ml hb2 (Gr.ml hb1 ((hM.alloc _).alloc _)))).mono ?_;rintro e w3 ⟨rfl,hb3⟩;go_wp2_with fail;go_ret;exact⟨gG (by rw[Hr.out]),Gr.call (Gr.call (Gr.call (((Gr.refl w).alloc _).alloc _) hb1) hb2) hb3⟩
theorem Va(p:α->Bool)(l:List α)(k:Nat)(d:α)(h:k<l.length)(hp:p (l.getD k d)=true):l.any p=true:=by rw[bT];exact⟨_,jZ h d,hp⟩
theorem Vb(p:α->Bool)(l:List α)(k:Nat)(d:α)(h:k<l.length)(hk:(l.take k).any p=false)(hp:p (l.getD k d)=false):(l.take (k+1)).any p=false:=by rw[aW h,List.any_append,hk];simp[List.getD_eq_getElem?_getD,List.getElem?_eq_getElem h] at hp;simp[hp]
theorem Yh(p:α->Bool)(l:List α)(k:Nat)(h:¬k<l.length)(hk:(l.take k).any p=false):l.any p=false:=by rwa[aV (by omega)] at hk
theorem wG(x:Wnt)(l:List Wnt)(b off cap:Nat)(m:Int)(w:World)(hx:x.Wf)(hl:l.length<=maxLen)(hb:b<w.heap.size)(hat:iD w b off l)(hwf:∀x∈l,Wnt.Wf x)(hM:Ml m w):Calls prog 121 #[.agg #[.string x.a,.int .i64 x.y,.int .i64 x.k,.int .i64 x.n,.string x.s],.slice (some ⟨b,off,none⟩) l.length cap] w
   fun e w'=>e=.returned (.bool (l.any fun v=>qI v x))/\Gr w w':=by
 unfold maxLen at hl;have HC:Hid (iD w b off l):=hat;have HF:Hid (∀x∈l,Wnt.Wf x):=hwf;have HX:Hid x.Wf:=hx;clear hat hwf hx;go_enter func121,ntmps121;go_wp2;go_loopw [9] (fun i wr=>∃k:Nat,k<=l.length/\i=.int .i64 k/\Gr (w.alloc (.cells #[.string x.a,.int .i64 x.y,.int .i64 x.k,.int .i64 x.n,.string x.s] 89)) wr/\Hid ((l.take k).any (fun v=>qI v x)=false)) (fun i _=>l.length-(intOf i).toNat);case atStart=>exact⟨0,zZ,rfl,gZ,rfl⟩
 case round=>
  obtain⟨k,hk,rfl,g,HA⟩:=hrel;have gw:Gr w wr:=Gr.call ((Gr.refl w).alloc _) g;by_cases hlt:k<l.length
  ·obtain⟨c1,c2,c3,c4,c5⟩:=(HC.gr gw hb) k hlt;have hb':=gw.lt hb;have hzr:w.heap.size<wr.heap.size:=g.lt (by simp);(have x1:wr.cell? ⟨w.heap.size,0,none⟩=some (.string x.a):=by rw[(gP g).1 _ _ (by simp)];simp[go_sem]);(have x2:wr.cell? ⟨w.heap.size,1,none⟩=some (.int .i64 x.y):=by rw[(gP g).1 _ _ (by simp)];simp[go_sem]);(have x3:wr.cell? ⟨w.heap.size,1+1,none⟩=some (.int .i64 x.k):=by rw[(gP g).1 _ _ (by simp)];simp[go_sem]);(have x4:wr.cell? ⟨w.heap.size,1+1+1,none⟩=some (.int .i64 x.n):=by rw[(gP g).1 _ _ (by simp)];simp[go_sem]);(have x5:wr.cell? ⟨w.heap.size,1+1+1+1,none⟩=some (.string x.s):=by rw[(gP g).1 _ _ (by simp)];simp[go_sem]);go_wp2_with fail;refine(Iv _ _ _ _ _ _ _ _ _ _ m _ (HF _ (jP hlt)).a HX.a (HF _ (jP hlt)).n1 (HF _ (jP hlt)).n2 ((gw.ml hM).alloc _)).mono ?_;rintro e w1 ⟨rfl,hb1⟩;have g1:Gr (w.alloc (.cells #[.string x.a,.int .i64 x.y,.int .i64 x.k,.int .i64 x.n,.string x.s] 89)) w1:=Gr.call (g.alloc _) hb1;clear c1 c2 c3 c4 c5 x1 x2 x3 x4 x5;go_wp2
   ·go_ret;refine⟨gG (Va _ l k dW hlt ?_).symm,Gr.call (gw.alloc _) hb1⟩;exact ‹nX _ _ _ _ _ _ _ _ _ _=true›
   ·go_roundw;case rel=>
     refine⟨k+1,by omega,by go_num,g1,Vb _ l k dW hlt HA ?_⟩;exact ‹nX _ _ _ _ _ _ _ _ _ _=false›
    case measure=>simp[intOf];omega
  ·go_wp2;go_ret;exact⟨gG (Yh _ l k hlt HA.out).symm,gw⟩
theorem Kz(f g:List Wnt)(b off cap b' off' cap':Nat)(m:Int)(w:World)(hl:f.length<=maxLen)(hb:b<w.heap.size)(hat:iD w b off f)(hwf:∀x∈f,Wnt.Wf x)(hl':g.length<=maxLen)(hb':b'<w.heap.size)(hat':iD w b' off' g)(hwf':∀x∈g,Wnt.Wf x)(hM:Ml m w):Calls prog 105 #[.slice (some ⟨b,off,none⟩) f.length cap,.slice (some ⟨b',off',none⟩) g.length cap'] w
   fun e w'=>e=.returned (.bool (cov f g))/\Gr w w':=by
 have HC:Hid (iD w b off f):=hat;have HF:Hid (∀x∈f,Wnt.Wf x):=hwf;have HC':Hid (iD w b' off' g):=hat';have HF':Hid (∀x∈g,Wnt.Wf x):=hwf';have HL:Hid (f.length<=maxLen):=hl;have HL':Hid (g.length<=maxLen):=hl';unfold maxLen at hl hl';clear hat hwf hat' hwf';cases h1:gN f
 ·have Hc:Hid (chk f=2):=by show _=_;simp[chk,h1]
  have Hr:Hid (cov f g=false):=by show _=_;simp[cov,h1]
  go_enter func105,ntmps105;go_wp2_with fail;refine(oG _ _ _ _ _ HL hb HC HF.out).mono ?_;rw[Hc.out];rintro e w1 ⟨rfl,hb1⟩;go_wp2_with fail;go_ret;exact⟨gG (by rw[Hr.out]),hb1⟩
 have Hc:Hid (chk f=0):=by show _=_;simp[chk,h1]
 cases h2:gN g
 ·have Hc':Hid (chk g=2):=by show _=_;simp[chk,h2]
  have Hr:Hid (cov f g=false):=by show _=_;simp[cov,h2]
  go_enter func105,ntmps105;go_wp2_with fail;refine(oG _ _ _ _ _ HL hb HC HF.out).mono ?_;rw[Hc.out];rintro e w1 ⟨rfl,hb1⟩;go_wp2_with fail;refine(oG _ _ _ _ _ HL' (Gr.lt hb1 hb') (HC'.gr hb1 hb') HF'.out).mono ?_;rw[Hc'.out];rintro e w2 ⟨rfl,hb2⟩;go_wp2_with fail;go_ret;exact⟨gG (by rw[Hr.out]),Gr.call hb1 hb2⟩
 have Hc':Hid (chk g=0):=by show _=_;simp[chk,h2]
 have Hr:Hid (cov f g=f.all fun x=>g.any fun v=>qI v x):=by show _=_;simp[cov,h1,h2]
 go_enter func105,ntmps105;go_wp2_with fail;refine(oG _ _ _ _ _ HL hb HC HF.out).mono ?_;rw[Hc.out];rintro e w1 ⟨rfl,hb1⟩;go_wp2_with fail;refine(oG _ _ _ _ _ HL' (Gr.lt hb1 hb') (HC'.gr hb1 hb') HF'.out).mono ?_;rw[Hc'.out];rintro e w2 ⟨rfl,hb2⟩;have g2:Gr w w2:=Gr.call hb1 hb2;clear hb1 hb2;go_wp2_with fail;go_loopw [17] (fun i wr=>∃k:Nat,k<=f.length/\i=.int .i64 k/\Gr w wr/\Hid ((f.take k).all (fun x=>g.any fun v=>qI v x)=true)) (fun i _=>f.length-(intOf i).toNat);case atStart=>exact⟨0,zZ,rfl,g2,rfl⟩
 case round=>
  obtain⟨k,hk,rfl,gr,HA⟩:=hrel;by_cases hlt:k<f.length
  ·obtain⟨c1,c2,c3,c4,c5⟩:=(HC.gr gr hb) k hlt;have hbr:=gr.lt hb;go_wp2_with fail;refine(wG (wat f k) g _ _ _ m _ (HF _ (jP hlt)) HL' (Gr.lt (gr.alloc _) hb') (HC'.gr (gr.alloc _) hb') HF' ((gr.ml hM).alloc _)).mono ?_;rintro e w3 ⟨rfl,hb3⟩;have g3:Gr w w3:=Gr.call (gr.alloc _) hb3;clear c1 c2 c3 c4 c5;go_wp2
   ·go_ret;refine⟨gG ?_,g3⟩;rw[Hr.out,oV _ f k dW hlt (by simpa[wat] using ‹(!(g.any _))=true›)]
   ·go_roundw;case rel=>
     refine⟨k+1,by omega,by go_num,g3,lQ _ f k dW hlt HA ?_⟩;simpa[wat] using ‹(!(g.any _))=false›
    case measure=>simp[intOf];omega
  ·go_wp2;go_ret;refine⟨gG ?_,gr⟩;rw[Hr.out,qW _ f k hlt HA.out]
abbrev Hw:=Hd (List Wnt)
def hv(h:Hw)(ad:Option Addr)(c:Nat):Array Value:=#[.int .i64 h.key.1,.int .i64 h.key.2,.slice ad h.f.length c,.int .i64 h.fr]
structure FiM(w:World)(ad:Option Addr)(l:List Wnt):Prop where
 at':∃b off,ad=some ⟨b,off,none⟩/\b<w.heap.size/\iD w b off l
 wf:∀x∈l,Wnt.Wf x
 ok:gN l=true
theorem FiM.gr{w':World}{ad:Option Addr}{l:List Wnt}(h:FiM w ad l)(g:Gr w w'):FiM w' ad l:=by obtain⟨b,off,h1,h2,h3⟩:=h.at';exact⟨⟨b,off,h1,g.lt h2,h3.gr g h2⟩,h.wf,h.ok⟩
theorem FiM.len{ad:Option Addr}{l:List Wnt}(h:FiM w ad l):l.length<=6:=by have:=h.ok;simp only[gN,aP,decide_eq_true_eq] at this;omega
theorem Ng(f g:List Wnt)(a a':Option Addr)(c c':Nat)(m:Int)(w:World)(h:FiM w a f)(h':FiM w a' g)(hM:Ml m w):Calls prog 105 #[.slice a f.length c,.slice a' g.length c'] w fun e w'=>e=.returned (.bool (cov f g))/\Gr w w':=by obtain⟨b,off,rfl,h2,h3⟩:=h.at';obtain⟨b',off',rfl,h2',h3'⟩:=h'.at';exact Kz f g b off c b' off' c' m w (by have:=h.len;unfold maxLen;omega) h2 h3 h.wf (by have:=h'.len;unfold maxLen;omega) h2' h3' h'.wf hM
theorem Cn(g h:Hw)(a a':Option Addr)(c c':Nat)(m:Int)(w:World)(hg:FiM w a g.f)(hh:FiM w a' h.f)(hM:Ml m w):Calls prog 93 #[.agg (hv g a c),.agg (hv h a' c')] w fun e w'=>e=.returned (.bool (iW cov g h))/\Gr w w':=by
 have HG:=hZ hg;have HH:=hZ hh;have HM:=hZ hM;clear hg hh hM;unfold hv;have EH:Hid (iW cov g h=(cov g.f h.f&&(!(cov h.f g.f)||klt g.key h.key))):=rfl;generalize iW cov g h=r at *;go_enter func93,ntmps93;go_wp2_with fail;have ga:Gr w ((w.alloc (.cells #[.int .i64 g.key.1,.int .i64 g.key.2,.slice a g.f.length c,.int .i64 g.fr] 124)).alloc (.cells #[.int .i64 h.key.1,.int .i64 h.key.2,.slice a' h.f.length c',.int .i64 h.fr] 124)):=((Gr.refl w).alloc _).alloc _;have P0:=fY w (.cells #[.int .i64 g.key.1,.int .i64 g.key.2,.slice a g.f.length c,.int .i64 g.fr] 124);have hsz:(w.alloc (.cells #[.int .i64 g.key.1,.int .i64 g.key.2,.slice a g.f.length c,.int .i64 g.fr] 124)).heap.size=w.heap.size+1:=by simp
 have Q0:=fY (w.alloc (.cells #[.int .i64 g.key.1,.int .i64 g.key.2,.slice a g.f.length c,.int .i64 g.fr] 124)) (.cells #[.int .i64 h.key.1,.int .i64 h.key.2,.slice a' h.f.length c',.int .i64 h.fr] 124);rw[hsz] at Q0;have P0':=gK ((Gr.refl (w.alloc (.cells #[.int .i64 g.key.1,.int .i64 g.key.2,.slice a g.f.length c,.int .i64 g.fr] 124))).alloc (.cells #[.int .i64 h.key.1,.int .i64 h.key.2,.slice a' h.f.length c',.int .i64 h.fr] 124)) P0;refine(Ng g.f h.f a a' c c' m _ (HG.gr ga) (HH.gr ga) (ga.ml HM.out)).mono ?_;rintro e w1 ⟨rfl,g1⟩;have G1:=hZ (Gr.call ga g1);have P1:=hZ (gK g1 P0');have Q1:=hZ (gK g1 Q0);clear ga g1 P0 Q0 P0' hsz;have p0:w1.cell? ⟨w.heap.size,0,none⟩=some (.int .i64 g.key.1):=by rw[cZ P1.out];rfl
 have p1:w1.cell? ⟨w.heap.size,1,none⟩=some (.int .i64 g.key.2):=by rw[cZ P1.out];rfl
 have p2:w1.cell? ⟨w.heap.size,2,none⟩=some (.slice a g.f.length c):=by rw[cZ P1.out];rfl
 have p3:w1.cell? ⟨w.heap.size,3,none⟩=some (.int .i64 g.fr):=by rw[cZ P1.out];rfl
 have q0:w1.cell? ⟨w.heap.size+1,0,none⟩=some (.int .i64 h.key.1):=by rw[cZ Q1.out];rfl
 have q1:w1.cell? ⟨w.heap.size+1,1,none⟩=some (.int .i64 h.key.2):=by rw[cZ Q1.out];rfl
 have q2:w1.cell? ⟨w.heap.size+1,2,none⟩=some (.slice a' h.f.length c'):=by rw[cZ Q1.out];rfl
 have q3:w1.cell? ⟨w.heap.size+1,3,none⟩=some (.int .i64 h.fr):=by rw[cZ Q1.out];rfl
 cases c1:cov g.f h.f with
 |false=>have er:=EH.out;rw[c1,dU] at er;subst er;go_wp2_with fail;go_ret;exact⟨rfl,G1.out⟩
 |true=>
  have er:=hZ EH.out;go_wp2_with fail;refine(Ng h.f g.f a' a c' c m w1 (HH.gr G1.out) (HG.gr G1.out) (G1.ml HM.out)).mono ?_;rintro e w2 ⟨rfl,g2⟩;have G2:=hZ (Gr.call G1 g2);have P2:=hZ (gK g2 P1.out);have Q2:=hZ (gK g2 Q1.out);clear p0 p1 p2 p3 q0 q1 q2 q3 g2 P1 Q1 G1;have p0:w2.cell? ⟨w.heap.size,0,none⟩=some (.int .i64 g.key.1):=by rw[cZ P2.out];rfl
  have p1:w2.cell? ⟨w.heap.size,1,none⟩=some (.int .i64 g.key.2):=by rw[cZ P2.out];rfl
  have p2:w2.cell? ⟨w.heap.size,2,none⟩=some (.slice a g.f.length c):=by rw[cZ P2.out];rfl
  have p3:w2.cell? ⟨w.heap.size,3,none⟩=some (.int .i64 g.fr):=by rw[cZ P2.out];rfl
  have q0:w2.cell? ⟨w.heap.size+1,0,none⟩=some (.int .i64 h.key.1):=by rw[cZ Q2.out];rfl
  have q1:w2.cell? ⟨w.heap.size+1,1,none⟩=some (.int .i64 h.key.2):=by rw[cZ Q2.out];rfl
  have q2:w2.cell? ⟨w.heap.size+1,2,none⟩=some (.slice a' h.f.length c'):=by rw[cZ Q2.out];rfl
  have q3:w2.cell? ⟨w.heap.size+1,3,none⟩=some (.int .i64 h.fr):=by rw[cZ Q2.out];rfl
  cases c2:cov h.f g.f with
  |false=>
   (have hr:r=true:=by rw[er.out,c1,c2];rfl);subst hr;go_wp2_with fail;go_ret;exact⟨rfl,G2.out⟩
  |true=>
   (have hr:r=klt g.key h.key:=by rw[er.out,c1,c2];simp);subst hr;go_wp2_with fail;refine(xG g.key h.key w2).mono ?_;rintro e w3 ⟨rfl,g3⟩;have G3:=hZ (Gr.call G2 g3);have hlt:=Uq g.key h.key;go_wp2_with fail;go_ret;exact⟨rfl,G3.out⟩
section
variable {F E:Type}
inductive Ms (F E:Type) where
 |sub (k:Ky) (f:F)
 |uns (k:Ky)
 |ev (e:E)
abbrev Rl'(F:Type):=Ky->F->Prop
def ap1:Ms F E->Rl' F->Rl' F
 |.sub k f,R=>fun k' f'=>(k'=k/\f'=f)\/(k'≠k/\R k' f')
 |.uns k,R=>fun k' f'=>k'≠k/\R k' f'
 |.ev _,R=>R
def ap:List (Ms F E)->Rl' F->Rl' F
 |[],R=>R
 |m::r,R=>ap r (ap1 m R)
theorem wK(p q:List (Ms F E))(R:Rl' F):ap (p++q) R=ap q (ap p R):=by
 induction p generalizing R with
 |nil=>rfl
 |cons m r ih=>exact ih _
def wf:List (Ms F E)->Rl' F->Prop
 |[],_=>True
 |.sub k f::r,R=>(∀f',¬R k f')/\wf r (ap1 (.sub k f:Ms F E) R)
 |.uns k::r,R=>(∃f',R k f')/\wf r (ap1 (.uns k:Ms F E) R)
 |.ev _::r,R=>wf r R
theorem vP(p q:List (Ms F E))(R:Rl' F):wf (p++q) R↔wf p R/\wf q (ap p R):=by
 induction p generalizing R with
 |nil=>simp[wf,ap]
 |cons m r ih=>
  cases m with
  |sub k f=>simp only[bD,wf,ap,ih];exact and_assoc.symm
  |uns k=>simp only[bD,wf,ap,ih];exact and_assoc.symm
  |ev e=>simp only[bD,wf,ap,ih,ap1]
def rl(l:List (Hd F)):Rl' F:=fun k f=>∃h∈l,h.key=k/\h.f=f
def hfr(l:List (Hd F))(a:Int):Rl' F:=fun k f=>∃h∈l,h.fr=a/\h.key=k/\h.f=f
variable (cov:F->F->Bool)
def lJ(l:List (Hd F))(k:Ky):Bool:=l.any fun g=>g.key==k
theorem rZ{l:List (Hd F)}{k:Ky}:lJ l k=true↔∃g∈l,g.key=k:=by simp[lJ]
theorem mM{l:List (Hd F)}{k:Ky}:lJ l k=false↔∀g∈l,g.key≠k:=by simp[lJ]
def newT(l l':List (Hd F))(n:Int):List (Hd F):=(told cov l' n).filter fun h=>!(lJ (told cov l n) h.key)
def goneT(l l':List (Hd F))(n:Int):List (Hd F):=(told cov l n).filter fun h=>!(lJ (told cov l' n) h.key)
def rL(xs:List (Hd F)):List (Ms F E):=xs.map fun h=>.sub h.key h.f
def qM(xs:List (Hd F)):List (Ms F E):=xs.map fun h=>.uns h.key
def chg(l l':List (Hd F))(n:Int):List (Ms F E):=rL (newT cov l l' n)++qM (goneT cov l l' n)
variable {cov}
theorem Srt.newT{l l':List (Hd F)}(hs:Srt l')(n:Int):Srt (newT cov l l' n):=(hs.told cov n).filter _
theorem Srt.goneT{l l':List (Hd F)}(hs:Srt l)(n:Int):Srt (goneT cov l l' n):=(hs.told cov n).filter _
theorem Nb{xs:List (Hd F)}(hs:Srt xs)(R:Rl' F)(k:Ky)(f:F):ap (rL xs:List (Ms F E)) R k f↔rl xs k f\/((∀h∈xs,h.key≠k)/\R k f):=by
 induction xs generalizing R with
 |nil=>simp[rL,ap,rl]
 |cons x t ih=>
  have hp:=cW.1 hs;show ap (rL t:List (Ms F E)) (ap1 (.sub x.key x.f:Ms F E) R) k f↔_;rw[ih hp.2];simp only[ap1,rl,aN];constructor
  ·rintro(⟨h,h1,h2⟩|⟨h1,⟨rfl,rfl⟩|⟨h2,h3⟩⟩)
   ·exact Or.inl ⟨h,Or.inr h1,h2⟩
   ·exact Or.inl ⟨x,Or.inl rfl,rfl,rfl⟩
   ·refine Or.inr ⟨fun h hh=>?_,h3⟩;rcases hh with rfl|hh
    ·exact fun e=>h2 e.symm
    ·exact h1 h hh
  ·rintro(⟨h,rfl|h1,h2,h3⟩|⟨h1,h2⟩)
   ·refine Or.inr ⟨fun g hg e=>?_,Or.inl ⟨h2.symm,h3.symm⟩⟩;have:=hp.1 g hg;rw[e,h2,jS] at this;cases this
   ·exact Or.inl ⟨h,h1,h2,h3⟩
   ·exact Or.inr ⟨fun h hh=>h1 h (Or.inr hh),Or.inr ⟨fun e=>h1 x (Or.inl rfl) e.symm,h2⟩⟩
theorem Yg(xs:List (Hd F))(R:Rl' F)(k:Ky)(f:F):ap (qM xs:List (Ms F E)) R k f↔(∀h∈xs,h.key≠k)/\R k f:=by
 induction xs generalizing R with
 |nil=>simp[qM,ap]
 |cons x t ih=>
  show ap (qM t:List (Ms F E)) (ap1 (.uns x.key:Ms F E) R) k f↔_;rw[ih];simp only[ap1,aN];constructor
  ·rintro⟨h1,h2,h3⟩;refine⟨fun h hh=>?_,h3⟩;rcases hh with rfl|hh
   ·exact fun e=>h2 e.symm
   ·exact h1 h hh
  ·rintro⟨h1,h2⟩;exact⟨fun h hh=>h1 h (Or.inr hh),fun e=>h1 x (Or.inl rfl) e.symm,h2⟩
theorem Vo{xs:List (Hd F)}(hs:Srt xs)(R:Rl' F)(h:∀x∈xs,∀f,¬R x.key f):wf (rL xs:List (Ms F E)) R:=by
 induction xs generalizing R with
 |nil=>trivial
 |cons x t ih=>
  have hp:=cW.1 hs;refine⟨h x (by simp),ih hp.2 _ (fun y hy f hr=>?_)⟩;rcases hr with⟨e,_⟩|⟨_,hr⟩
  ·have:=hp.1 y hy;rw[e,jS] at this;cases this
  ·exact h y (by simp[hy]) f hr
theorem Vn{xs:List (Hd F)}(hs:Srt xs)(R:Rl' F)(h:∀x∈xs,∃f,R x.key f):wf (qM xs:List (Ms F E)) R:=by
 induction xs generalizing R with
 |nil=>trivial
 |cons x t ih=>have hp:=cW.1 hs;refine⟨h x (by simp),ih hp.2 _ (fun y hy=>?_)⟩;obtain⟨f,hf⟩:=h y (by simp[hy]);refine⟨f,fun e=>?_,hf⟩;have:=hp.1 y hy;rw[e,jS] at this;cases this
def Bh(l l':List (Hd F)):Prop:=∀x∈l,∀y∈l',x.key=y.key->x.f=y.f
theorem aAG{l l':List (Hd F)}(hs':Srt l')(hsm:Bh l l')(n:Int):ap (chg cov l l' n:List (Ms F E)) (rl (told cov l n))=rl (told cov l' n):=by
 funext k f;apply propext;unfold chg;rw[wK,Yg,Nb (hs'.newT n)];constructor
 ·rintro⟨h1,⟨h,hm,h2,h3⟩|⟨h2,h,hm,h3,h4⟩⟩
  ·exact⟨h,(aY.1 hm).1,h2,h3⟩
  ·cases hk:lJ (told cov l' n) k with
   |false=>exact absurd h3 (h1 h (aY.2 ⟨hm,by rw[h3,hk];rfl⟩))
   |true=>obtain⟨g,hg,hgk⟩:=rZ.1 hk;exact⟨g,hg,hgk,by rw[<-h4];exact(hsm h ((iJ cov).1 hm).1 g ((iJ cov).1 hg).1 (by rw[h3,hgk])).symm⟩
 ·rintro⟨h,hm,h2,h3⟩;refine⟨fun g hg e=>?_,?_⟩
  ·have:=(aY.1 hg).2;simp only[bW] at this;exact mM.1 this h hm (by rw[h2,e])
  ·cases hk:lJ (told cov l n) k with
   |false=>exact Or.inl ⟨h,aY.2 ⟨hm,by rw[h2,hk];rfl⟩,h2,h3⟩
   |true=>
    obtain⟨g,hg,hgk⟩:=rZ.1 hk;refine Or.inr ⟨fun x hx e=>?_,g,hg,hgk,?_⟩
    ·have:=(aY.1 hx).2;rw[e,hk] at this;cases this
    ·rw[<-h3];exact hsm g ((iJ cov).1 hg).1 h ((iJ cov).1 hm).1 (by rw[hgk,h2])
theorem Ze{l l':List (Hd F)}(hs:Srt l)(hs':Srt l')(n:Int):wf (chg cov l l' n:List (Ms F E)) (rl (told cov l n)):=by
 unfold chg;rw[vP];refine⟨Vo (hs'.newT n) _ (fun x hx f hr=>?_),Vn (hs.goneT n) _ (fun x hx=>⟨x.f,?_⟩)⟩
 ·have:=(aY.1 hx).2;simp only[bW] at this;obtain⟨g,hg,hgk,_⟩:=hr;exact mM.1 this g hg hgk
 ·rw[Nb (hs'.newT n)];refine Or.inr ⟨fun h hh e=>?_,x,(aY.1 hx).1,rfl,rfl⟩;have:=(aY.1 hx).2;simp only[bW] at this;exact mM.1 this h (aY.1 hh).1 e
theorem Dy{h:Hd F}{l:List (Hd F)}:hfr (ins h l) h.fr=ap1 (.sub h.key h.f:Ms F E) (hfr l h.fr):=by
 funext k f;apply propext;simp only[hfr,ap1,iU];constructor
 ·rintro⟨g,rfl|⟨h1,h2⟩,h3,rfl,rfl⟩
  ·exact Or.inl ⟨rfl,rfl⟩
  ·exact Or.inr ⟨h2,g,h1,h3,rfl,rfl⟩
 ·rintro(⟨rfl,rfl⟩|⟨h1,g,h2,h3,rfl,rfl⟩)
  ·exact⟨h,Or.inl rfl,rfl,rfl,rfl⟩
  ·exact⟨g,Or.inr ⟨h2,h1⟩,h3,rfl,rfl⟩
theorem kK{h:Hd F}{l:List (Hd F)}{a:Int}(ha:h.fr≠a)(hn:∀g∈l,g.key=h.key->g.fr≠a):hfr (ins h l) a=hfr l a:=by
 funext k f;apply propext;simp only[hfr,iU];constructor
 ·rintro⟨g,rfl|⟨h1,h2⟩,h3,h4⟩
  ·exact absurd h3 ha
  ·exact⟨g,h1,h3,h4⟩
 ·rintro⟨g,h1,h2,h3⟩;exact⟨g,Or.inr ⟨h1,fun e=>hn g h1 e h2⟩,h2,h3⟩
theorem Dz{k:Ky}{l:List (Hd F)}{a:Int}:hfr (del k l) a=ap1 (.uns k:Ms F E) (hfr l a):=by
 funext k' f;apply propext;simp only[hfr,ap1,jO];constructor
 ·rintro⟨g,⟨h1,h2⟩,h3,rfl,rfl⟩;exact⟨h2,g,h1,h3,rfl,rfl⟩
 ·rintro⟨h1,g,h2,h3,rfl,rfl⟩;exact⟨g,⟨h2,h1⟩,h3,rfl,rfl⟩
theorem kL{k:Ky}{l:List (Hd F)}{a:Int}(hn:∀g∈l,g.key=k->g.fr≠a):hfr (del k l) a=hfr l a:=by
 funext k' f;apply propext;simp only[hfr,jO];constructor
 ·rintro⟨g,⟨h1,_⟩,h3⟩;exact⟨g,h1,h3⟩
 ·rintro⟨g,h1,h2,h3⟩;exact⟨g,⟨h1,fun e=>hn g h1 e h2⟩,h2,h3⟩
end
section
variable {F E:Type}
structure Nx(adj:Nat->Nat->Bool)(nxt:Nat->Nat->Int):Prop where
 sym:∀a b,adj a b=true->adj b a=true
 irr:∀a,adj a a=false
 self:∀t,nxt t t=-1
 back:∀b n t,adj b n=true->nxt b t≠(n:Int)->nxt n t=(b:Int)
structure TS(F E:Type) where
 held:Nat->List (Hd F)
 q:Nat->Nat->List (Ms F E)
variable (cov:F->F->Bool) (adj:Nat->Nat->Bool)
def TS.turn(s:TS F E)(b:Nat)(l':List (Hd F)):TS F E where
 held:=fun x=>if x=b then l' else s.held x
 q:=fun x y=>if x=b/\adj b y=true then s.q x y++chg cov (s.held b) l' y else s.q x y
def TS.pop(s:TS F E)(a b:Nat):TS F E where
 held:=s.held
 q:=fun x y=>if x=a/\y=b then(s.q x y).tail else s.q x y
structure Inv(nxt:Nat->Nat->Int)(home:Int->Nat)(ok:F->Prop)(s:TS F E):Prop where
 srt:∀b,Srt (s.held b)
 rt:∀b,∀h∈s.held b,h.fr=nxt b (home h.key.1)
 hok:∀b,∀h∈s.held b,ok h.f
 qs:∀a b k f,Ms.sub k f∈s.q a b->nxt b (home k.1)=(a:Int)/\ok f
 qu:∀a b k,Ms.uns k∈s.q a b->nxt b (home k.1)=(a:Int)
 nq:∀a b,adj a b=false->s.q a b=[]
 ag:∀a b,adj a b=true->ap (s.q a b) (hfr (s.held b) a)=rl (told cov (s.held a) b)
 al:∀a b,adj a b=true->wf (s.q a b) (hfr (s.held b) a)
variable {cov adj}
variable {nxt:Nat->Nat->Int}{home:Int->Nat}{ok:F->Prop}
theorem wS{l l':List (Hd F)}{n:Int}{k:Ky}{f:F}(h:(Ms.sub k f:Ms F E)∈chg cov l l' n):∃g∈l',g.fr≠n/\g.key=k/\g.f=f:=by
 simp only[chg,rL,qM,aE,aC] at h;rcases h with⟨g,hg,he⟩|⟨g,_,he⟩
 ·injection he with h1 h2;have:=(iJ cov).1 (aY.1 hg).1;exact⟨g,this.1,this.2.1,h1,h2⟩
 ·cases he
theorem Ge{l l':List (Hd F)}{n:Int}{k:Ky}(h:(Ms.uns k:Ms F E)∈chg cov l l' n):∃g∈l,g.fr≠n/\g.key=k:=by
 simp only[chg,rL,qM,aE,aC] at h;rcases h with⟨g,_,he⟩|⟨g,hg,he⟩
 ·cases he
 ·injection he with h1;have:=(iJ cov).1 (aY.1 hg).1;exact⟨g,this.1,this.2.1,h1⟩
theorem uD(N:Nx adj nxt){s:TS F E}{b:Nat}{l':List (Hd F)}(srt:∀x,Srt (s.held x))(rt:∀x,∀h∈s.held x,h.fr=nxt x (home h.key.1))(hok:∀x,∀h∈s.held x,ok h.f)(qs:∀a x k f,Ms.sub k f∈s.q a x->nxt x (home k.1)=(a:Int)/\ok f)(qu:∀a x k,Ms.uns k∈s.q a x->nxt x (home k.1)=(a:Int))(nq:∀a x,adj a x=false->s.q a x=[])(ag:∀a x,x≠b->adj a x=true->ap (s.q a x) (hfr (s.held x) a)=rl (told cov (s.held a) x))(al:∀a x,x≠b->adj a x=true->wf (s.q a x) (hfr (s.held x) a))(srt':Srt l')(rt':∀h∈l',h.fr=nxt b (home h.key.1))(hok':∀h∈l',ok h.f)(hsm:Bh (s.held b) l')(ag':∀a,adj a b=true->ap (s.q a b) (hfr l' a)=rl (told cov (s.held a) b))(al':∀a,adj a b=true->wf (s.q a b) (hfr l' a)):Inv cov adj nxt home ok (s.turn cov adj b l'):=by
 have hh:∀x,(s.turn cov adj b l').held x=if x=b then l' else s.held x:=fun _=>rfl;have hq:∀x y,(s.turn cov adj b l').q x y=if x=b/\adj b y=true then s.q x y++chg cov (s.held b) l' y else s.q x y:=fun _ _=>rfl;refine⟨fun x=>?_,fun x h hm=>?_,fun x h hm=>?_,fun a x k f hm=>?_,fun a x k hm=>?_,fun a x ha=>?_,fun a x ha=>?_,fun a x ha=>?_⟩
 ·rw[hh];split
  ·exact srt'
  ·exact srt x
 ·rw[hh] at hm;by_cases hx:x=b
  ·subst hx;rw[if_pos rfl] at hm;exact rt' h hm
  ·rw[if_neg hx] at hm;exact rt x h hm
 ·rw[hh] at hm;by_cases hx:x=b
  ·subst hx;rw[if_pos rfl] at hm;exact hok' h hm
  ·rw[if_neg hx] at hm;exact hok x h hm
 ·rw[hq] at hm;split at hm
  ·rename_i hc;obtain⟨rfl,hadj⟩:=hc;rcases aE.1 hm with hm|hm
   ·exact qs a x k f hm
   ·obtain⟨g,hg,hn,rfl,rfl⟩:=wS hm;refine⟨N.back a x _ hadj ?_,hok' g hg⟩;rw[<-rt' g hg];exact hn
  ·exact qs a x k f hm
 ·rw[hq] at hm;split at hm
  ·rename_i hc;obtain⟨rfl,hadj⟩:=hc;rcases aE.1 hm with hm|hm
   ·exact qu a x k hm
   ·obtain⟨g,hg,hn,rfl⟩:=Ge hm;refine N.back a x _ hadj ?_;rw[<-rt a g hg];exact hn
  ·exact qu a x k hm
 ·rw[hq];split
  ·rename_i hc;obtain⟨rfl,hadj⟩:=hc;rw[ha] at hadj;cases hadj
  ·exact nq a x ha
 ·rw[hq,hh,hh];by_cases hab:a=b
  ·subst hab;(have hxa:x≠a:=fun e=>by subst e;rw[N.irr] at ha;cases ha);rw[if_pos ⟨rfl,ha⟩,if_neg hxa,if_pos rfl,wK,ag a x hxa ha];exact aAG srt' hsm x
  ·rw[if_neg (fun h=>hab h.1),if_neg hab];by_cases hxb:x=b
   ·subst hxb;rw[if_pos rfl];exact ag' a ha
   ·rw[if_neg hxb];exact ag a x hxb ha
 ·rw[hq,hh];by_cases hab:a=b
  ·subst hab;(have hxa:x≠a:=fun e=>by subst e;rw[N.irr] at ha;cases ha);rw[if_pos ⟨rfl,ha⟩,if_neg hxa,vP];refine⟨al a x hxa ha,?_⟩;rw[ag a x hxa ha];exact Ze (srt a) srt' x
  ·rw[if_neg (fun h=>hab h.1)];by_cases hxb:x=b
   ·subst hxb;rw[if_pos rfl];exact al' a ha
   ·rw[if_neg hxb];exact al a x hxb ha
theorem Bh.ins{h:Hd F}{l:List (Hd F)}(hs:Srt l)(hn:∀g∈l,g.key≠h.key):Bh l (ins h l):=by
 intro x hx y hy e;rcases iU.1 hy with rfl|⟨hy,_⟩
 ·exact absurd e (hn x hx)
 ·rw[hs.uniq hx hy e]
theorem Bh.del{k:Ky}{l:List (Hd F)}(hs:Srt l):Bh l (del k l):=by intro x hx y hy e;rw[hs.uniq hx (jO.1 hy).1 e]
theorem Wa(N:Nx adj nxt){s:TS F E}(I:Inv cov adj nxt home ok s)(k:Ky)(f:F)(hf:ok f)(hn:∀g∈s.held (home k.1),g.key≠k):Inv cov adj nxt home ok (s.turn cov adj (home k.1) (ins ⟨k,f, -1⟩ (s.held (home k.1)))):=by
 refine uD N I.srt I.rt I.hok I.qs I.qu I.nq (fun a x _=>I.ag a x) (fun a x _=>I.al a x) ((I.srt _).ins _) (fun h hm=>?_) (fun h hm=>?_) (Bh.ins (I.srt _) hn) (fun a ha=>?_) (fun a ha=>?_)
 ·rcases iU.1 hm with rfl|⟨hm,_⟩
  ·exact(N.self _).symm
  ·exact I.rt _ h hm
 ·rcases iU.1 hm with rfl|⟨hm,_⟩
  ·exact hf
  ·exact I.hok _ h hm
 ·rw[kK (by show(-1:Int)≠a;omega) (fun g hg e=>absurd e (hn g hg))];exact I.ag a _ ha
 ·rw[kK (by show(-1:Int)≠a;omega) (fun g hg e=>absurd e (hn g hg))];exact I.al a _ ha
theorem Vu(N:Nx adj nxt){s:TS F E}(I:Inv cov adj nxt home ok s)(k:Ky):Inv cov adj nxt home ok (s.turn cov adj (home k.1) (del k (s.held (home k.1)))):=by
 have hoth:∀a:Nat,∀g∈s.held (home k.1),g.key=k->g.fr≠(a:Int):=by intro a g hg e;rw[I.rt _ g hg,e,N.self];omega
 refine uD N I.srt I.rt I.hok I.qs I.qu I.nq (fun a x _=>I.ag a x) (fun a x _=>I.al a x) ((I.srt _).del _) (fun h hm=>I.rt _ h (jO.1 hm).1) (fun h hm=>I.hok _ h (jO.1 hm).1) (Bh.del (I.srt _)) (fun a ha=>?_) (fun a ha=>?_)
 ·rw[kL (hoth a)];exact I.ag a _ ha
 ·rw[kL (hoth a)];exact I.al a _ ha
def TS.arr(cov:F->F->Bool)(adj:Nat->Nat->Bool)(s:TS F E)(a b:Nat):Ms F E->TS F E
 |.sub k f=>(s.pop a b).turn cov adj b (ins ⟨k,f,a⟩ (s.held b))
 |.uns k=>(s.pop a b).turn cov adj b (del k (s.held b))
 |.ev _=>s.pop a b
theorem yW{s:TS F E}{a b x y:Nat}{m:Ms F E}(hm:m∈(s.pop a b).q x y):m∈s.q x y:=by
 simp only[TS.pop] at hm;split at hm
 ·exact List.mem_of_mem_tail hm
 ·exact hm
theorem vE{s:TS F E}(I:Inv cov adj nxt home ok s){a b:Nat}(ha:adj a b=true){k:Ky}{f:F}{r:List (Ms F E)}(hq:s.q a b=.sub k f::r):∀g∈s.held b,g.key≠k:=by intro g hg e;have h1:=I.al a b ha;rw[hq] at h1;have h2:=(I.qs a b k f (by rw[hq];simp)).1;exact h1.1 g.f ⟨g,hg,by rw[I.rt b g hg,e,h2],e,rfl⟩
theorem Gt{s:TS F E}(I:Inv cov adj nxt home ok s){a b:Nat}(ha:adj a b=true){k:Ky}{r:List (Ms F E)}(hq:s.q a b=.uns k::r):∃g∈s.held b,g.key=k:=by have h1:=I.al a b ha;rw[hq] at h1;obtain⟨f,g,hg,_,h3,_⟩:=h1.1;exact⟨g,hg,h3⟩
theorem El(N:Nx adj nxt){s:TS F E}(I:Inv cov adj nxt home ok s){a b:Nat}(ha:adj a b=true){m:Ms F E}{r:List (Ms F E)}(hq:s.q a b=m::r):Inv cov adj nxt home ok (s.arr cov adj a b m):=by
 have hpq:∀x y,(s.pop a b).q x y=if x=a/\y=b then(s.q x y).tail else s.q x y:=fun _ _=>rfl;have hpb:(s.pop a b).q a b=r:=by rw[hpq,if_pos ⟨rfl,rfl⟩,hq];rfl
 have hpo:∀x,x≠a->(s.pop a b).q x b=s.q x b:=fun x hx=>by rw[hpq,if_neg (fun h=>hx h.1)]
 have hpy:∀x y,y≠b->(s.pop a b).q x y=s.q x y:=fun x y hy=>by rw[hpq,if_neg (fun h=>hy h.2)]
 have hnq:∀x y,adj x y=false->(s.pop a b).q x y=[]:=by
  intro x y hxy;rw[hpq];split
  ·rw[I.nq x y hxy];rfl
  ·exact I.nq x y hxy
 have hag:=I.ag a b ha;have hal:=I.al a b ha;rw[hq] at hag hal;cases m with
 |sub k f=>
  have hside:=(I.qs a b k f (by rw[hq];simp));have hno:=vE I ha hq;refine uD N (s:=s.pop a b) I.srt I.rt I.hok (fun x y k f hm=>I.qs x y k f (yW hm)) (fun x y k hm=>I.qu x y k (yW hm)) hnq (fun x y hy hxy=>by rw[hpy x y hy];exact I.ag x y hxy) (fun x y hy hxy=>by rw[hpy x y hy];exact I.al x y hxy) ((I.srt b).ins _) (fun h hm=>?_) (fun h hm=>?_) (Bh.ins (I.srt b) hno) (fun x hx=>?_) (fun x hx=>?_)
  ·rcases iU.1 hm with rfl|⟨hm,_⟩
   ·exact hside.1.symm
   ·exact I.rt b h hm
  ·rcases iU.1 hm with rfl|⟨hm,_⟩
   ·exact hside.2
   ·exact I.hok b h hm
  ·by_cases hxa:x=a
   ·subst hxa;rw[hpb];have:=Dy (E:=E) (h:=(⟨k,f,x⟩:Hd F)) (l:=s.held b);simp only at this;rw[this];exact hag
   ·rw[hpo x hxa,kK (by show(a:Int)≠x;omega) (fun g hg e=>absurd e (hno g hg))];exact I.ag x b hx
  ·by_cases hxa:x=a
   ·subst hxa;rw[hpb];have:=Dy (E:=E) (h:=(⟨k,f,x⟩:Hd F)) (l:=s.held b);simp only at this;rw[this];exact hal.2
   ·rw[hpo x hxa,kK (by show(a:Int)≠x;omega) (fun g hg e=>absurd e (hno g hg))];exact I.al x b hx
 |uns k=>
  have hside:=I.qu a b k (by rw[hq];simp);have hoth:∀x:Nat,x≠a->∀g∈s.held b,g.key=k->g.fr≠(x:Int):=by intro x hx g hg e;rw[I.rt b g hg,e,hside];omega
  refine uD N (s:=s.pop a b) I.srt I.rt I.hok (fun x y k f hm=>I.qs x y k f (yW hm)) (fun x y k hm=>I.qu x y k (yW hm)) hnq (fun x y hy hxy=>by rw[hpy x y hy];exact I.ag x y hxy) (fun x y hy hxy=>by rw[hpy x y hy];exact I.al x y hxy) ((I.srt b).del _) (fun h hm=>I.rt b h (jO.1 hm).1) (fun h hm=>I.hok b h (jO.1 hm).1) (Bh.del (I.srt b)) (fun x hx=>?_) (fun x hx=>?_)
  ·by_cases hxa:x=a
   ·subst hxa;rw[hpb,Dz (E:=E)];exact hag
   ·rw[hpo x hxa,kL (hoth x hxa)];exact I.ag x b hx
  ·by_cases hxa:x=a
   ·subst hxa;rw[hpb,Dz (E:=E)];exact hal.2
   ·rw[hpo x hxa,kL (hoth x hxa)];exact I.al x b hx
 |ev e=>
  refine⟨I.srt,I.rt,I.hok,fun x y k f hm=>I.qs x y k f (yW hm),fun x y k hm=>I.qu x y k (yW hm),hnq,fun x y hxy=>?_,fun x y hxy=>?_⟩
  ·show ap ((s.pop a b).q x y) (hfr (s.held y) x)=_;by_cases h:x=a/\y=b
   ·obtain⟨rfl,rfl⟩:=h;rw[hpb];exact hag
   ·rw[hpq,if_neg h];exact I.ag x y hxy
  ·show wf ((s.pop a b).q x y) (hfr (s.held y) x);by_cases h:x=a/\y=b
   ·obtain⟨rfl,rfl⟩:=h;rw[hpb];exact hal
   ·rw[hpq,if_neg h];exact I.al x y hxy
end
section
variable {F E:Type}
variable {cov:F->F->Bool}{adj:Nat->Nat->Bool}{nxt:Nat->Nat->Int}{home:Int->Nat}{ok:F->Prop}{rank:Nat->Nat->Nat}
structure Rk(adj:Nat->Nat->Bool)(nxt:Nat->Nat->Int)(rank:Nat->Nat->Nat):Prop where
 lt:∀b n m,adj b n=true->adj m b=true->m≠n->rank m b<rank b n
 nb:∀b t,nxt b t=-1\/∃m:Nat,nxt b t=(m:Int)/\adj m b=true
def TS.none(F E:Type):TS F E:=⟨fun _=>[],fun _ _=>[]⟩
theorem Sk:Inv cov adj nxt home ok (TS.none F E):=by
 refine⟨fun b=>List.Pairwise.nil,fun b h hm=>(by cases hm),fun b h hm=>(by cases hm),fun a b k f hm=>(by cases hm),fun a b k hm=>(by cases hm),fun a b _=>rfl,fun a b _=>?_,fun a b _=>trivial⟩;funext k f;apply propext;constructor
 ·rintro⟨h,hm,_⟩;cases hm
 ·rintro⟨h,hm,_⟩;cases hm
def isT(cov:F->F->Bool)(l:List (Hd F))(n:Int)(h:Hd F):Bool:=!(l.any fun g=>!(g.fr==n)&&iW cov g h)
theorem nV{l:List (Hd F)}{n:Int}{h:Hd F}:isT cov l n h=true↔∀g∈l,g.fr≠n->iW cov g h=false:=by
 simp only[isT,bW,List.any_eq_false];constructor
 ·intro h1 g hg hn;have:=h1 g hg;simpa[hn] using this
 ·intro h1 g hg;by_cases hn:g.fr=n
  ·simp[hn]
  ·simp[h1 g hg hn]
def woT(cov:F->F->Bool)(l:List (Hd F))(n:Int)(h:Hd F):List (Hd F):=l.filter fun g=>!(g.fr==n)&&iW cov h g&&isT cov l n g
theorem uV{l:List (Hd F)}{n:Int}{h g:Hd F}:g∈woT cov l n h↔g∈told cov l n/\iW cov h g=true:=by
 simp only[woT,aY,aP,bW,beq_eq_false_iff_ne,iJ,nV];constructor
 ·rintro⟨h1,⟨h2,h3⟩,h4⟩;exact⟨⟨h1,h2,h4⟩,h3⟩
 ·rintro⟨⟨h1,h2,h4⟩,h3⟩;exact⟨h1,⟨h2,h3⟩,h4⟩
theorem uE{l:List (Hd F)}{h:Hd F}(hn:∀g∈l,g.key≠h.key){n:Int}(hf:h.fr≠n)(g:Hd F):g∈told cov (ins h l) n↔(g=h/\isT cov l n h=true)\/(g∈told cov l n/\iW cov h g=false):=by
 rw[iJ,iJ,nV];constructor
 ·rintro⟨h1,h2,h3⟩;rcases iU.1 h1 with rfl|⟨h4,h5⟩
  ·exact Or.inl ⟨rfl,fun x hx hxn=>h3 x (iU.2 (Or.inr ⟨hx,hn x hx⟩)) hxn⟩
  ·exact Or.inr ⟨⟨h4,h2,fun x hx hxn=>h3 x (iU.2 (Or.inr ⟨hx,hn x hx⟩)) hxn⟩,h3 h (iU.2 (Or.inl rfl)) hf⟩
 ·rintro(⟨rfl,h1⟩|⟨⟨h1,h2,h3⟩,h4⟩)
  ·refine⟨iU.2 (Or.inl rfl),hf,fun x hx hxn=>?_⟩;rcases iU.1 hx with rfl|⟨hx,_⟩
   ·exact sY x
   ·exact h1 x hx hxn
  ·refine⟨iU.2 (Or.inr ⟨h1,hn g h1⟩),h2,fun x hx hxn=>?_⟩;rcases iU.1 hx with rfl|⟨hx,_⟩
   ·exact h4
   ·exact h3 x hx hxn
theorem tG{l:List (Hd F)}{h:Hd F}(hs:Srt l)(hn:∀g∈l,g.key≠h.key):told cov (ins h l) h.fr=told cov l h.fr:=by
 refine((hs.ins h).told cov _).ext (hs.told cov _) (fun g=>?_);rw[iJ,iJ];constructor
 ·rintro⟨h1,h2,h3⟩;rcases iU.1 h1 with rfl|⟨h4,_⟩
  ·exact absurd rfl h2
  ·exact⟨h4,h2,fun x hx hxn=>h3 x (iU.2 (Or.inr ⟨hx,hn x hx⟩)) hxn⟩
 ·rintro⟨h1,h2,h3⟩;refine⟨iU.2 (Or.inr ⟨h1,hn g h1⟩),h2,fun x hx hxn=>?_⟩;rcases iU.1 hx with rfl|⟨hx,_⟩
  ·exact absurd rfl hxn
  ·exact h3 x hx hxn
theorem Hz{l l':List (Hd F)}{n:Int}(h:told cov l' n=told cov l n):(chg cov l l' n:List (Ms F E))=[]:=by
 have e:∀m:List (Hd F),(m.filter fun h=>!(lJ m h.key))=[]:=by intro m;rw[fF];intro x hx;simp only[bW,Bool.not_eq_false];exact rZ.2 ⟨x,hx,rfl⟩
 simp only[chg,newT,goneT,h,e,rL,qM,dI,aZ]
theorem Ee{l:List (Hd F)}{h:Hd F}(hs:Srt l)(hn:∀g∈l,g.key≠h.key){n:Int}(hf:h.fr≠n):(chg cov l (ins h l) n:List (Ms F E))=(if isT cov l n h then[.sub h.key h.f] else[])++qM (woT cov l n h):=by
 have e1:newT cov l (ins h l) n=if isT cov l n h then[h] else[]:=by
  refine((hs.ins h).newT n).ext ?_ (fun g=>?_)
  ·split
   ·exact eY _ _
   ·exact List.Pairwise.nil
  ·unfold newT;rw[aY,uE hn hf];constructor
   ·rintro⟨⟨rfl,h1⟩|⟨h1,h2⟩,h3⟩
    ·rw[if_pos h1];simp
    ·simp only[bW] at h3;exact absurd rfl (mM.1 h3 g h1)
   ·intro hg;split at hg
    ·rename_i h1;simp only[aM] at hg;subst hg;refine⟨Or.inl ⟨rfl,h1⟩,?_⟩;simp only[bW];exact mM.2 (fun x hx=>hn x ((iJ cov).1 hx).1)
    ·cases hg
 have e2:goneT cov l (ins h l) n=woT cov l n h:=by
  refine(hs.goneT n).ext (hs.filter _) (fun g=>?_);rw[uV];unfold goneT;rw[aY];constructor
  ·rintro⟨h1,h2⟩;refine⟨h1,?_⟩;cases hh:iW cov h g with
   |true=>rfl
   |false=>simp only[bW] at h2;exact absurd rfl (mM.1 h2 g ((uE hn hf g).2 (Or.inr ⟨h1,hh⟩)))
  ·rintro⟨h1,h2⟩;refine⟨h1,?_⟩;simp only[bW];refine mM.2 (fun x hx e=>?_);rcases(uE hn hf x).1 hx with⟨rfl,_⟩|⟨h3,h4⟩
   ·exact hn g ((iJ cov).1 h1).1 e.symm
   ·rw[hs.uniq ((iJ cov).1 h3).1 ((iJ cov).1 h1).1 e,h2] at h4;cases h4
 unfold chg;rw[e1,e2];congr 1;split<;>rfl
theorem oC{l:List (Hd F)}{h:Hd F}(hs:Srt l)(hn:∀g∈l,g.key≠h.key):(chg cov l (ins h l) h.fr:List (Ms F E))=[]:=Hz (tG hs hn)
theorem Mf{l:List (Hd F)}{h:Hd F}(hs:Srt l)(hm:h∈l):ins h (del h.key l)=l:=by
 refine((hs.del _).ins h).ext hs (fun g=>?_);rw[iU,jO];constructor
 ·rintro(rfl|⟨⟨h1,_⟩,_⟩)
  ·exact hm
  ·exact h1
 ·intro hg;by_cases e:g.key=h.key
  ·exact Or.inl (hs.uniq hg hm e)
  ·exact Or.inr ⟨⟨hg,e⟩,e⟩
theorem Ae{l:List (Hd F)}{k:Ky}:∀g∈del k l,g.key≠k:=fun _ hg=>(jO.1 hg).2
theorem Up{l l':List (Hd F)}{n:Int}:(chg cov l l' n:List (Ms F E))=rL (newT cov l l' n)++qM (newT cov l' l n):=rfl
theorem Ef{l:List (Hd F)}{h:Hd F}(hs:Srt l)(hm:h∈l){n:Int}(hf:h.fr≠n):(chg cov l (del h.key l) n:List (Ms F E))=rL (woT cov (del h.key l) n h)++(if isT cov (del h.key l) n h then[.uns h.key] else[]):=by
 have hd:=hs.del h.key;have e:=Mf hs hm;have tt:∀g,g∈told cov l n↔(g=h/\isT cov (del h.key l) n h=true)\/(g∈told cov (del h.key l) n/\iW cov h g=false):=by intro g;have:=uE (cov:=cov) (l:=del h.key l) (h:=h) Ae hf g;rw[e] at this;exact this
 have e1:newT cov (del h.key l) l n=if isT cov (del h.key l) n h then[h] else[]:=by
  refine(hs.newT n).ext ?_ (fun g=>?_)
  ·split
   ·exact eY _ _
   ·exact List.Pairwise.nil
  ·unfold newT;rw[aY,tt];constructor
   ·rintro⟨⟨rfl,h1⟩|⟨h1,h2⟩,h3⟩
    ·rw[if_pos h1];simp
    ·simp only[bW] at h3;exact absurd rfl (mM.1 h3 g h1)
   ·intro hg;split at hg
    ·rename_i h1;simp only[aM] at hg;subst hg;refine⟨Or.inl ⟨rfl,h1⟩,?_⟩;simp only[bW];exact mM.2 (fun x hx=>Ae x ((iJ cov).1 hx).1)
    ·cases hg
 have e2:newT cov l (del h.key l) n=woT cov (del h.key l) n h:=by
  refine(hd.newT n).ext (hd.filter _) (fun g=>?_);rw[uV];unfold newT;rw[aY];constructor
  ·rintro⟨h1,h2⟩;refine⟨h1,?_⟩;cases hh:iW cov h g with
   |true=>rfl
   |false=>simp only[bW] at h2;refine absurd rfl (mM.1 h2 g ?_);rw[tt];exact Or.inr ⟨h1,hh⟩
  ·rintro⟨h1,h2⟩;refine⟨h1,?_⟩;simp only[bW];refine mM.2 (fun x hx ek=>?_);rw[tt] at hx;rcases hx with⟨rfl,_⟩|⟨h3,h4⟩
   ·exact Ae g ((iJ cov).1 h1).1 ek.symm
   ·rw[hd.uniq ((iJ cov).1 h3).1 ((iJ cov).1 h1).1 ek,h2] at h4;cases h4
 rw[Up,e2,e1];congr 1;split<;>rfl
theorem oD{l:List (Hd F)}{h:Hd F}(hs:Srt l)(hm:h∈l):(chg cov l (del h.key l) h.fr:List (Ms F E))=[]:=by refine Hz ?_;have:=tG (cov:=cov) (hs.del h.key) (h:=h) Ae;rw[Mf hs hm] at this;exact this.symm
end
end Go.Proofs.YtecnfgikbmcgoabGreat
