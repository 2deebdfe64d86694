import Derived.Test.YtecnfgikbmcgoabGreatG20
set_option maxHeartbeats 8000000
set_option maxRecDepth 100000
namespace Go.Proofs.YtecnfgikbmcgoabGreat
open Go.Proofs.Tryz
open Go.RowKit
variable {w:World}
structure Bx(w:World)(b:Nat)(a:ByteArray)(y k n:Int)(s:ByteArray):Prop where
 lt:b<w.heap.size
 c0:w.cell? ⟨b,0,none⟩=some (.string a)
 c1:w.cell? ⟨b,1,none⟩=some (.int .i64 y)
 c2:w.cell? ⟨b,1+1,none⟩=some (.int .i64 k)
 c3:w.cell? ⟨b,1+1+1,none⟩=some (.int .i64 n)
 c4:w.cell? ⟨b,1+1+1+1,none⟩=some (.string s)
theorem Bx.gr{w':World}{b:Nat}{a:ByteArray}{y k n:Int}{s:ByteArray}(h:Bx w b a y k n s)(g:Gr w w'):Bx w' b a y k n s:=by obtain⟨hc,_⟩:=gP g;exact⟨Gr.lt g h.lt,by rw[hc _ _ h.lt];exact h.c0,by rw[hc _ _ h.lt];exact h.c1,by rw[hc _ _ h.lt];exact h.c2,by rw[hc _ _ h.lt];exact h.c3,by rw[hc _ _ h.lt];exact h.c4⟩
theorem Bx.new(w:World)(a:ByteArray)(y k n:Int)(s:ByteArray)(t:TypeId):Bx (w.alloc (.cells #[.string a,.int .i64 y,.int .i64 k,.int .i64 n,.string s] t)) w.heap.size a y k n s:=by constructor<;>simp[go_sem]
def tat(l:List (Int×Int×ByteArray))(i:Nat):Int×Int×ByteArray:=l.getD i (0,0,gM)
theorem Vx{l:List (Int×Int×ByteArray)}{i:Nat}(h:i<l.length):tat l i∈l:=jZ h _
theorem vT{base:Nat}{e:TypeId}{g cap:Nat}{l:List (Int×Int×ByteArray)}(h:w.ownsRow base e 3 (.slice (some ⟨g,0,none⟩) l.length cap) l.length (kC l))(i:Nat)(hi:i<l.length):w.cell? ⟨g,i*3,none⟩=some (.int .i64 (tat l i).1)/\w.cell? ⟨g,i*3+1,none⟩=some (.int .i64 (tat l i).2.1)/\w.cell? ⟨g,i*3+1+1,none⟩=some (.string (tat l i).2.2):=by
 have e:l[i]?=some (tat l i):=by simp[tat,List.getD_eq_getElem?_getD,List.getElem?_eq_getElem hi]
 obtain⟨h1,h2,h3⟩:=Lf l i _ e;rw[aH h (i*3) (by omega),aH h (i*3+1) (by omega),aH h (i*3+1+1) (by omega)];exact⟨h1,h2,h3⟩
theorem Iz{n:Int}{s:ByteArray}{n':Int}{s':ByteArray}(hs:s.size<=32)(hs':s'.size<=32):∀v∈gJ n s n' s',v.2.2.size<=33:=by
 have piece_sz:∀(n:Int)(s:ByteArray),s.size<=32->∀v∈kQ n s,v.2.2.size<=33:=fun n s hs v hv=>by
  have a1:aT.size=1:=rfl;have z1:zT.size=1:=rfl;have o1:oT.size=1:=rfl;have f1:fT.size=1:=rfl;have e1:gM.size=0:=rfl;unfold kQ at hv;rcases aE.1 hv with hv|hv
  ·simp only[aN,dR,or_false] at hv;rcases hv with rfl|rfl|rfl|rfl<;>simp only<;>omega
  ·split at hv
   ·simp only[aN,dR,or_false] at hv;rcases hv with rfl|rfl|rfl|rfl|rfl|rfl|rfl|rfl<;>simp only[If]<;>omega
   ·simp at hv
 intro v hv;unfold gJ at hv;rcases aE.1 hv with hv|hv
 ·rcases aE.1 hv with hv|hv
  ·rcases aE.1 hv with hv|hv
   ·simp only[aN,dR,or_false] at hv;rcases hv with rfl|rfl|rfl|rfl<;>decide
   ·exact piece_sz n gM (by decide) v hv
  ·exact piece_sz n' s hs v hv
 ·exact piece_sz 0 s' hs' v hv
theorem yS(a:ByteArray)(y k n:Int)(s a':ByteArray)(y' k' n':Int)(s':ByteArray)(w:World)(ha:a.size<=maxLen)(ha':a'.size<=maxLen)(hlo:iI<=n)(hhi:n<=iM)(hlo':iI<=n')(hhi':n'<=iM):Calls prog 107 #[.agg #[.string a,.int .i64 y,.int .i64 k,.int .i64 n,.string s],.agg #[.string a',.int .i64 y',.int .i64 k',.int .i64 n',.string s']] w
   fun e w'=>e=.returned (.bool (nX a y k n s a' y' k' n' s'))/\Gr w w':=by
 have Hlo:Hid (iI<=n/\n<=iM/\iI<=n'/\n'<=iM):=⟨hlo,hhi,hlo',hhi'⟩;clear hlo hhi hlo' hhi';cases h1:jK a y k n s
 ·have Hr:Hid (nX a y k n s a' y' k' n' s'=false):=by show _=_;simp[nX,h1]
  go_enter func107,ntmps107;go_wp2_with fail;refine(kF _ _ _ _ _ _ ha).mono ?_;rw[h1];rintro e w1 ⟨rfl,hb1⟩;obtain⟨hc1,hf1⟩:=gP hb1;go_wp2_with fail;refine(kF _ _ _ _ _ _ ha').mono ?_;rintro e w2 ⟨rfl,hb2⟩;go_wp2_with fail;go_ret;exact⟨gG (by rw[Hr.out]),Gr.call (Gr.call (((Gr.refl w).alloc _).alloc _) hb1) hb2⟩
 cases h2:jK a' y' k' n' s'
 ·have Hr:Hid (nX a y k n s a' y' k' n' s'=false):=by show _=_;simp[nX,h2]
  go_enter func107,ntmps107;go_wp2_with fail;refine(kF _ _ _ _ _ _ ha).mono ?_;rw[h1];rintro e w1 ⟨rfl,hb1⟩;obtain⟨hc1,hf1⟩:=gP hb1;go_wp2_with fail;refine(kF _ _ _ _ _ _ ha').mono ?_;rw[h2];rintro e w2 ⟨rfl,hb2⟩;go_wp2_with fail;go_ret;exact⟨gG (by rw[Hr.out]),Gr.call (Gr.call (((Gr.refl w).alloc _).alloc _) hb1) hb2⟩
 have Hw:Hid (gV y k n s=true):=by show _=_;simp[jK] at h1;exact h1.2
 have Hw':Hid (gV y' k' n' s'=true):=by show _=_;simp[jK] at h2;exact h2.2
 have hs:=nE Hw.out;have hs':=nE Hw'.out;cases h3:(a.toList==a'.toList)
 ·have Hr:Hid (nX a y k n s a' y' k' n' s'=false):=by show _=_;simp[nX,h3]
  go_enter func107,ntmps107;go_wp2_with fail;refine(kF _ _ _ _ _ _ ha).mono ?_;rw[h1];rintro e w1 ⟨rfl,hb1⟩;have b1:=(Bx.new w a y k n s 47).gr (Gr.call (gZ.alloc _) hb1);have b2:=(Bx.new (w.alloc (.cells #[.string a,.int .i64 y,.int .i64 k,.int .i64 n,.string s] 47)) a' y' k' n' s' 47).gr hb1;rw[show(w.alloc (.cells #[.string a,.int .i64 y,.int .i64 k,.int .i64 n,.string s] 47)).heap.size=w.heap.size+1 by simp] at b2;have B1:Hid (Bx w1 w.heap.size a y k n s):=b1;have q0:=b2.c0;have q1:=b2.c1;have q2:=b2.c2;have q3:=b2.c3;have q4:=b2.c4;have B2:Hid (Bx w1 (w.heap.size+1) a' y' k' n' s'):=b2;clear b1 b2;go_wp2_with fail;refine(kF _ _ _ _ _ _ ha').mono ?_;rw[h2];rintro e w2 ⟨rfl,hb2⟩;clear q0 q1 q2 q3 q4;have r0:=(B1.gr hb2).c0;have r1:=(B2.gr hb2).c0;go_wp2_with fail;go_ret;exact⟨gG (by rw[Hr.out]),Gr.call (Gr.call (((Gr.refl w).alloc _).alloc _) hb1) hb2⟩
 have HT:Hid (nX a y k n s a' y' k' n' s'=Cy y k n s y' k' n' s'):=by show _=_;rw[Qt Hw.out Hw'.out Hlo.1 Hlo.2.1 Hlo.2.2.1 Hlo.2.2.2];simp[nX,h1,h2,h3]
 go_enter func107,ntmps107;go_wp2_with fail;refine(kF _ _ _ _ _ _ ha).mono ?_;rw[h1];rintro e w1 ⟨rfl,hb1⟩;have b1:=(Bx.new w a y k n s 47).gr (Gr.call (gZ.alloc _) hb1);have b2:=(Bx.new (w.alloc (.cells #[.string a,.int .i64 y,.int .i64 k,.int .i64 n,.string s] 47)) a' y' k' n' s' 47).gr hb1;rw[show(w.alloc (.cells #[.string a,.int .i64 y,.int .i64 k,.int .i64 n,.string s] 47)).heap.size=w.heap.size+1 by simp] at b2;have g1:Gr w w1:=Gr.call (((Gr.refl w).alloc _).alloc _) hb1;have B1:Hid (Bx w1 w.heap.size a y k n s):=b1;have B2:Hid (Bx w1 (w.heap.size+1) a' y' k' n' s'):=b2;clear b1 b2 hb1;have q0:=B2.c0;have q1:=B2.c1;have q2:=B2.c2;have q3:=B2.c3;have q4:=B2.c4;go_wp2_with fail;refine(kF _ _ _ _ _ _ ha').mono ?_;rw[h2];rintro e w2 ⟨rfl,hb2⟩;have g2:Gr w w2:=Gr.call g1 hb2;have B12:Hid (Bx w2 w.heap.size a y k n s):=B1.gr hb2;have B22:Hid (Bx w2 (w.heap.size+1) a' y' k' n' s'):=B2.gr hb2;clear q0 q1 q2 q3 q4 B1 B2 hb2 g1;have p0:=B12.c0;have p1:=B12.c1;have p2:=B12.c2;have p3:=B12.c3;have p4:=B12.c4;have q0:=B22.c0;have q1:=B22.c1;have q2:=B22.c2;have q3:=B22.c3;have q4:=B22.c4;go_wp2_with fail;refine(Nk _ _ _ _ _ _ _ _ _ _ _ hs hs').mono ?_;rintro e w3 ⟨v3,rfl,hb3,hown⟩;have g3:Gr w w3:=Gr.call g2 hb3;have B13:Hid (Bx w3 w.heap.size a y k n s):=B12.gr hb3;have B23:Hid (Bx w3 (w.heap.size+1) a' y' k' n' s'):=B22.gr hb3;clear p0 p1 p2 p3 p4 q0 q1 q2 q3 q4 B12 B22 hb3 g2;obtain⟨gl,cl,rfl⟩:∃g cap,v3=.slice (some ⟨g,0,none⟩) (gJ n s n' s').length cap:=by
  rcases hown.2 with⟨_,hn⟩|⟨g,cap,cur,hv,_⟩
  ·simp[gJ] at hn
  ·exact⟨g,cap,hv⟩
 have HO:Hid (w3.ownsRow _ 45 3 (.slice (some ⟨gl,0,none⟩) (gJ n s n' s').length cl) (gJ n s n' s').length (kC (gJ n s n' s'))):=hown;have HS:Hid (∀v∈gJ n s n' s',v.2.2.size<=33):=Iz hs hs';have hlen:(gJ n s n' s').length<=60:=by have:=En n s n' s' 3;rw[Yz] at this;omega
 clear hown;go_wp2_with fail;go_loopw [8] (fun i wr=>∃q:Nat,q<=(gJ n s n' s').length/\i=.int .i64 q/\Gr w3 wr/\Hid (((gJ n s n' s').take q).all (fun v=>!(gT y k n s v.1 v.2.1 v.2.2&&!gT y' k' n' s' v.1 v.2.1 v.2.2))=true)) (fun i _=>(gJ n s n' s').length-(intOf i).toNat);case atStart=>exact⟨0,zZ,rfl,gZ,rfl⟩
 case round=>
  obtain⟨q,hq,rfl,gr,HA⟩:=hrel;by_cases hlt:q<(gJ n s n' s').length
  ·obtain⟨t0,t1,t2⟩:=vT (gO HO.out gr) q hlt;have HSq:=HS _ (Vx hlt);have p0:=(B13.gr gr).c0;have p1:=(B13.gr gr).c1;have p2:=(B13.gr gr).c2;have p3:=(B13.gr gr).c3;have p4:=(B13.gr gr).c4;(have hq0:(0:Int)<=(q:Int):=by omega);(have hq1:(q:Int)<((gJ n s n' s').length:Int):=by omega);cases hl1:gT y k n s (tat (gJ n s n' s') q).1 (tat (gJ n s n' s') q).2.1 (tat (gJ n s n' s') q).2.2
   ·have HN:Hid (((gJ n s n' s').take (q+1)).all (fun v=>!(gT y k n s v.1 v.2.1 v.2.2&&!gT y' k' n' s' v.1 v.2.1 v.2.2))=true):=lQ _ _ q (0,0,gM) hlt HA.out (by show(!(gT y k n s (tat (gJ n s n' s') q).1 (tat (gJ n s n' s') q).2.1 (tat (gJ n s n' s') q).2.2&&!gT y' k' n' s' (tat (gJ n s n' s') q).1 (tat (gJ n s n' s') q).2.1 (tat (gJ n s n' s') q).2.2))=true;rw[hl1];rfl);go_wp2_with fail;(first|go_region_with(go_at_call 100;refine(qL _ _ _ _ _ _ _ _ _ Hw.out (by omega) HSq).mono ?_;rw[hl1];rintro e w4 ⟨rfl,hb4⟩)|fail);all_goals
     have g4:Gr w3 w4:=Gr.call gr.drew hb4;clear hb4;go_wp2;(first|go_region_with fail|fail);all_goals
      go_wp2;go_roundw;case rel=>exact⟨q+1,by omega,by go_num,g4.drew,HN⟩
      case measure=>simp[intOf];omega
   ·cases hl2:gT y' k' n' s' (tat (gJ n s n' s') q).1 (tat (gJ n s n' s') q).2.1 (tat (gJ n s n' s') q).2.2
    ·(have HR:Hid (nX a y k n s a' y' k' n' s'=false):=by show _=_;rw[HT.out];exact oV _ _ q (0,0,gM) hlt (by show(!(gT y k n s (tat (gJ n s n' s') q).1 (tat (gJ n s n' s') q).2.1 (tat (gJ n s n' s') q).2.2&&!gT y' k' n' s' (tat (gJ n s n' s') q).1 (tat (gJ n s n' s') q).2.1 (tat (gJ n s n' s') q).2.2))=false;rw[hl1,hl2];rfl));go_wp2_with fail;(first|go_region_with(go_at_call 100;refine(qL _ _ _ _ _ _ _ _ _ Hw.out (by omega) HSq).mono ?_;rw[hl1];rintro e w4 ⟨rfl,hb4⟩)|fail);all_goals
      have g4:Gr w3 w4:=Gr.call gr.drew hb4;clear hb4 t0 t1 t2 p0 p1 p2 p3 p4;obtain⟨t0,t1,t2⟩:=vT (gO HO.out g4) q hlt;have p0:=(B23.gr g4).c0;have p1:=(B23.gr g4).c1;have p2:=(B23.gr g4).c2;have p3:=(B23.gr g4).c3;have p4:=(B23.gr g4).c4;go_wp2;(first|go_region_with(go_at_call 100;refine(qL _ _ _ _ _ _ _ _ _ Hw'.out (by omega) HSq).mono ?_;rw[hl2];rintro e w5 ⟨rfl,hb5⟩)|fail);all_goals
       go_wp2;go_ret;exact⟨gG (by rw[HR.out]),Gr.call g3 (Gr.call g4.drew hb5)⟩
    ·have HN:Hid (((gJ n s n' s').take (q+1)).all (fun v=>!(gT y k n s v.1 v.2.1 v.2.2&&!gT y' k' n' s' v.1 v.2.1 v.2.2))=true):=lQ _ _ q (0,0,gM) hlt HA.out (by show(!(gT y k n s (tat (gJ n s n' s') q).1 (tat (gJ n s n' s') q).2.1 (tat (gJ n s n' s') q).2.2&&!gT y' k' n' s' (tat (gJ n s n' s') q).1 (tat (gJ n s n' s') q).2.1 (tat (gJ n s n' s') q).2.2))=true;rw[hl1,hl2];rfl);go_wp2_with fail;(first|go_region_with(go_at_call 100;refine(qL _ _ _ _ _ _ _ _ _ Hw.out (by omega) HSq).mono ?_;rw[hl1];rintro e w4 ⟨rfl,hb4⟩)|fail);all_goals
      have g4:Gr w3 w4:=Gr.call gr.drew hb4;clear hb4 t0 t1 t2 p0 p1 p2 p3 p4;obtain⟨t0,t1,t2⟩:=vT (gO HO.out g4) q hlt;have p0:=(B23.gr g4).c0;have p1:=(B23.gr g4).c1;have p2:=(B23.gr g4).c2;have p3:=(B23.gr g4).c3;have p4:=(B23.gr g4).c4;go_wp2;(first|go_region_with(go_at_call 100;refine(qL _ _ _ _ _ _ _ _ _ Hw'.out (by omega) HSq).mono ?_;rw[hl2];rintro e w5 ⟨rfl,hb5⟩)|fail);all_goals
       have g5:Gr w3 w5:=Gr.call g4.drew hb5;go_wp2;go_roundw;case rel=>exact⟨q+1,by omega,by go_num,g5,HN⟩
       case measure=>simp[intOf];omega
  ·(have HR:Hid (nX a y k n s a' y' k' n' s'=true):=by show _=_;rw[HT.out];exact qW _ _ q hlt HA.out);go_wp2;go_ret;exact⟨gG (by rw[HR.out]),Gr.call g3 gr⟩
theorem Ig{α:Type}(p:α->Bool)(l:List α)(k:Nat)(d:α)(h:k<l.length):(l.take (k+1)).any p=((l.take k).any p||p (l.getD k d)):=by rw[aW h,List.any_append];simp[List.getD_eq_getElem?_getD,List.getElem?_eq_getElem h]
theorem Dd(ad:Option Addr)(cap:Nat)(w:World):Calls prog 44 #[.slice ad 0 cap] w fun e w'=>e=.returned (.int .i64 2)/\w'=w:=by go_enter func44,ntmps44;go_wp2;go_ret;exact⟨rfl,rfl⟩
theorem mC(l:List Wnt)(ad:Option Addr)(cap:Nat)(w:World)(hl:l.length<=maxLen)(h:oW w ad l)(hwf:∀x∈l,Wnt.Wf x):Calls prog 44 #[.slice ad l.length cap] w fun e w'=>e=.returned (.int .i64 (chk l))/\Gr w w':=by
 rcases h with rfl|⟨b,off,rfl,hb,hat⟩
 ·exact(Dd ad cap w).mono fun e w' ⟨h1,h2⟩=>⟨h1,by rw[h2];exact gZ⟩
 ·exact De l b off cap w hl hb hat hwf
theorem Ax(f g:List Wnt)(ad ad':Option Addr)(cap cap':Nat)(w:World)(hl:f.length<=maxLen)(h:oW w ad f)(hwf:∀x∈f,Wnt.Wf x)(hl':g.length<=maxLen)(h':oW w ad' g)(hwf':∀x∈g,Wnt.Wf x):Calls prog 97 #[.slice ad f.length cap,.slice ad' g.length cap'] w fun e w'=>e=.returned (.bool (cov f g))/\Gr w w':=by
 have HC:Hid (oW w ad f):=h;have HF:Hid (∀x∈f,Wnt.Wf x):=hwf;have HC':Hid (oW w ad' g):=h';have HF':Hid (∀x∈g,Wnt.Wf x):=hwf';have HL:Hid (f.length<=maxLen):=hl;have HL':Hid (g.length<=maxLen):=hl';unfold maxLen at hl hl';clear h hwf h' hwf';cases h1:gN f
 ·have Hc:Hid (chk f=2):=by show _=_;simp[chk,h1]
  have Hr:Hid (cov f g=false):=by show _=_;simp[cov,h1]
  go_enter func97,ntmps97;go_wp2_with fail;refine(mC _ _ _ _ HL.out HC.out HF.out).mono ?_;rw[Hc.out];rintro e w1 ⟨rfl,hb1⟩;go_wp2_with fail;go_ret;exact⟨gG (by rw[Hr.out]),hb1⟩
 have Hc:Hid (chk f=0):=by show _=_;simp[chk,h1]
 cases h2:gN g
 ·have Hc':Hid (chk g=2):=by show _=_;simp[chk,h2]
  have Hr:Hid (cov f g=false):=by show _=_;simp[cov,h2]
  go_enter func97,ntmps97;go_wp2_with fail;refine(mC _ _ _ _ HL.out HC.out HF.out).mono ?_;rw[Hc.out];rintro e w1 ⟨rfl,hb1⟩;go_wp2_with fail;refine(mC _ _ _ _ HL'.out (HC'.gr hb1) HF'.out).mono ?_;rw[Hc'.out];rintro e w2 ⟨rfl,hb2⟩;go_wp2_with fail;go_ret;exact⟨gG (by rw[Hr.out]),Gr.call hb1 hb2⟩
 have Hc':Hid (chk g=0):=by show _=_;simp[chk,h2]
 have Hr:Hid (cov f g=f.all fun x=>g.any fun v=>qI v x):=by show _=_;simp[cov,h1,h2]
 obtain⟨b,off,rfl,hb,hat⟩:∃b off,ad=some ⟨b,off,none⟩/\b<w.heap.size/\iD w b off f:=by
  rcases HC.out with h|h
  ·exact absurd h (oU h1).2
  ·exact h
 obtain⟨b',off',rfl,hb',hat'⟩:∃b off,ad'=some ⟨b,off,none⟩/\b<w.heap.size/\iD w b off g:=by
  rcases HC'.out with h|h
  ·exact absurd h (oU h2).2
  ·exact h
 have HA:Hid (iD w b off f):=hat;have HA':Hid (iD w b' off' g):=hat';clear hat hat';go_enter func97,ntmps97;go_wp2_with fail;refine(mC _ _ _ _ HL.out HC.out HF.out).mono ?_;rw[Hc.out];rintro e w1 ⟨rfl,hb1⟩;go_wp2_with fail;refine(mC _ _ _ _ HL'.out (HC'.gr hb1) HF'.out).mono ?_;rw[Hc'.out];rintro e w2 ⟨rfl,hb2⟩;have g2:Gr w w2:=Gr.call hb1 hb2;clear hb1 hb2;go_wp2_with fail;go_loopw [5] (fun i wr=>∃k:Nat,k<=f.length/\i=.int .i64 k/\Gr w wr/\Hid ((f.take k).all (fun x=>g.any fun v=>qI v x)=true)) (fun i _=>f.length-(intOf i).toNat);case atStart=>exact⟨0,zZ,rfl,g2,rfl⟩
 case round=>
  obtain⟨k,hk,rfl,gr,HP⟩:=hrel;by_cases hlt:k<f.length
  ·go_wp2_with fail;go_loopw [6,7] (fun fb i wr=>∃(q:Nat)(c:Bool),q<=g.length/\i=.int .i64 q/\fb=.bool c/\Gr w wr/\Hid (c=(g.take q).any (fun v=>qI v (wat f k)))) (fun _ i _=>g.length-(intOf i).toNat);case atStart=>exact⟨0,false,zZ,rfl,rfl,gr,rfl⟩
   case round=>
    obtain⟨q,c,hq,rfl,rfl,gq,HQ⟩:=hrel;by_cases hqt:q<g.length
    ·obtain⟨c1,c2,c3,c4,c5⟩:=(HA.gr gq hb) k hlt;obtain⟨d1,d2,d3,d4,d5⟩:=(HA'.gr gq hb') q hqt;(have e1:(0:Int)<=(k:Int):=by omega);(have e2:(k:Int)<(f.length:Int):=by omega);(have e3:(0:Int)<=(q:Int):=by omega);(have e4:(q:Int)<(g.length:Int):=by omega);have HN:Hid ((g.take (q+1)).any (fun v=>qI v (wat f k))=((g.take q).any (fun v=>qI v (wat f k))||qI (wat g q) (wat f k))):=Ig _ g q dW hqt;go_wp2_with fail;(first|go_region_with(go_at_call 107;refine(yS _ _ _ _ _ _ _ _ _ _ _ (HF' _ (jP hqt)).a (HF _ (jP hlt)).a (HF' _ (jP hqt)).n1 (HF' _ (jP hqt)).n2 (HF _ (jP hlt)).n1 (HF _ (jP hlt)).n2).mono ?_;rintro e w4 ⟨rfl,hb4⟩)|fail);all_goals
      have g4:Gr w w4:=Gr.call gq.drew hb4;clear hb4 c1 c2 c3 c4 c5 d1 d2 d3 d4 d5;cases c
      ·go_wp2;go_roundw;case rel=>exact⟨q+1,qI (wat g q) (wat f k),by omega,by go_num,rfl,g4,by show _=_;rw[HN.out,<-HQ.out];rfl⟩
       case measure=>simp[intOf];omega
      ·go_wp2;go_roundw;case rel=>exact⟨q+1,true,by omega,by go_num,rfl,g4,by show _=_;rw[HN.out,<-HQ.out];rfl⟩
       case measure=>simp[intOf];omega
    ·(have HE:Hid (c=g.any fun v=>qI v (wat f k)):=by show _=_;rw[HQ.out,aV (by omega)]);cases c
     ·(have HS:Hid (cov f g=false):=by show _=_;rw[Hr.out];exact oV _ f k dW hlt HE.symm);go_wp2;go_ret;exact⟨gG (by rw[HS.out]),gq⟩
     ·go_wp2;go_roundw;case rel=>exact⟨k+1,by omega,by go_num,gq,lQ _ f k dW hlt HP.out HE.symm⟩
      case measure=>simp[intOf];omega
  ·go_wp2;go_ret;refine⟨gG ?_,gr⟩;rw[Hr.out,qW _ f k hlt HP.out]
theorem Jc(f g:List Wnt)(a a':Option Addr)(c c':Nat)(w:World)(h:FiM w a f)(h':FiM w a' g):Calls prog 97 #[.slice a f.length c,.slice a' g.length c'] w fun e w'=>e=.returned (.bool (cov f g))/\Gr w w':=by obtain⟨b,off,rfl,h2,h3⟩:=h.at';obtain⟨b',off',rfl,h2',h3'⟩:=h'.at';exact Ax f g _ _ c c' w (by have:=h.len;unfold maxLen;omega) (Or.inr ⟨b,off,rfl,h2,h3⟩) h.wf (by have:=h'.len;unfold maxLen;omega) (Or.inr ⟨b',off',rfl,h2',h3'⟩) h'.wf
theorem wR(wz:World)(f g:List Wnt)(a a':Option Addr)(c c':Nat)(w:World)(h:FiM wz a f)(h':FiM wz a' g)(z:Gr wz w):Calls prog 97 #[.slice a f.length c,.slice a' g.length c'] w fun e w'=>e=.returned (.bool (cov f g))/\Gr wz w':=(Jc f g a a' c c' w (h.gr z) (h'.gr z)).mono fun _ _ ⟨h1,h2⟩=>⟨h1,Gr.call z h2⟩
theorem Yi(wz:World)(a b:Ky)(w:World)(z:Gr wz w):Calls prog 78 #[.agg #[.int .i64 a.1,.int .i64 a.2],.agg #[.int .i64 b.1,.int .i64 b.2]] w fun e w'=>e=.returned (.bool (klt a b))/\Gr wz w':=(wL a b w).mono fun _ _ ⟨h1,h2⟩=>⟨h1,Gr.call z h2⟩
def oY(X:List Hm)(h:Hw)(n:Int):Bool:=X.any fun g=>!(g.1.fr==n)&&iW cov g.1 h
theorem Jz(TB HB nb hcap:Nat)(ad:Option Addr)(cap:Nat)(X:List Hm)(w:World)(b:Nat)(hb:b<nb)(i:Nat)(hi:i<X.length)(n:Int)(htb:w.cell? ⟨TB,0,none⟩=some (.slice (some ⟨HB,0,none⟩) nb hcap))(hhb:w.cell? ⟨HB,b,none⟩=some (.slice ad X.length cap))(hrow:jM w ad (hH X))(hfi:∀x∈X,FiM w x.2.1 x.1.f)(hlen:X.length<=maxLen):Calls prog 79 #[.pointer (some ⟨TB,0,none⟩),.int .i64 b,.int .i64 i,.int .i64 n] w fun e w'=>e=.returned (.bool (oY X (hat X i).1 n))/\Gr w w':=by
 have ROW:=hZ hrow;have FI:=hZ hfi;unfold maxLen at hlen;clear hrow hfi;go_enter func79,ntmps79;go_wp2_with fail;clear htb hhb;go_loopw [10] (fun j wr=>∃q:Nat,q<=X.length/\j=.int .i64 q/\Hid (Gr w wr)/\Hid (oY (X.take q) (hat X i).1 n=false)) (fun j _=>X.length-(intOf j).toNat);case atStart=>exact⟨0,zZ,rfl,gZ,by simp[Hid,oY]⟩
 case round=>
  obtain⟨q,hq,rfl,G,HN⟩:=hrel;by_cases hql:q<X.length
  ·(have HS:Hid (oY (X.take (q+1)) (hat X i).1 n=(!((hat X q).1.fr==n)&&iW cov (hat X q).1 (hat X i).1)):=by show _=_;have h0:=HN.out;unfold oY at h0 ⊢;rw[oF _ X q _ hql,h0,fA];rfl);by_cases hqi:q=i
   ·(have HR:Hid (oY (X.take (q+1)) (hat X i).1 n=false):=by show _=_;rw[HS.out,hqi,sY,Bool.and_false]);clear HS HN;subst hqi;go_wp2_with fail;exact⟨⟨q+1,hql,by simp,G,HR⟩,gD _ _ hql⟩
   (have hqi':((q:Int)==(i:Int))=false:=by simp;omega);clear hqi;obtain⟨b,off,rfl,hb',c0,c1,c2,c3⟩:=(ROW.gr G.out).hold hql;have HT:Hid (iW cov (hat X q).1 (hat X i).1=true->((hat X q).1.fr==n)=false->oY X (hat X i).1 n=true):=fun h h'=>bT.2 ⟨_,nY hql,by simp[h,h']⟩;by_cases hs:(hat X q).1.fr=n
   ·have HR:Hid (oY (X.take (q+1)) (hat X i).1 n=false):=by show _=_;rw[HS.out,hs];simp
    (have hs':((hat X q).1.fr==n)=true:=by simp[hs]);clear HS HN HT;generalize hat X q=x at *;go_wp2_with fail;exact⟨⟨q+1,hql,by simp,G,HR⟩,gD _ _ hql⟩
   (have hs':((hat X q).1.fr==n)=false:=by simp[hs]);obtain⟨b2,off2,he,hb2,d0,d1,d2,d3⟩:=(ROW.gr G.out).hold hi;cases he;have F1:=hZ ((FI _ (nY hql)).gr G.out);have F2:=hZ ((FI _ (nY hi)).gr G.out);generalize hat X q=x at *;generalize hyy:hat X i=y at *;have HYY:=hZ hyy;clear hyy;have T:Hid (∀w',Gr wr w'->(Gr wr w'/\w'.cell? ⟨b,off+q*4,none⟩=some (.int .i64 x.1.key.1)/\w'.cell? ⟨b,off+q*4+1,none⟩=some (.int .i64 x.1.key.2)/\w'.cell? ⟨b,off+q*4+1+1,none⟩=some (.slice x.2.1 x.1.f.length x.2.2)/\w'.cell? ⟨b,off+i*4,none⟩=some (.int .i64 y.1.key.1)/\w'.cell? ⟨b,off+i*4+1,none⟩=some (.int .i64 y.1.key.2)/\w'.cell? ⟨b,off+i*4+1+1,none⟩=some (.slice y.2.1 y.1.f.length y.2.2))):=fun w' g=>by simp only[(gP g).1 b _ hb'];exact⟨g,c0,c1,c2,d0,d1,d2⟩
   go_wp2_with fail;go_region_held3(fun w'=>Gr wr w'/\w'.cell? ⟨b,off+q*4,none⟩=some (.int .i64 x.1.key.1)/\w'.cell? ⟨b,off+q*4+1,none⟩=some (.int .i64 x.1.key.2)/\w'.cell? ⟨b,off+q*4+1+1,none⟩=some (.slice x.2.1 x.1.f.length x.2.2)/\w'.cell? ⟨b,off+i*4,none⟩=some (.int .i64 y.1.key.1)/\w'.cell? ⟨b,off+i*4+1,none⟩=some (.int .i64 y.1.key.2)/\w'.cell? ⟨b,off+i*4+1+1,none⟩=some (.slice y.2.1 y.1.f.length y.2.2)) (exact T _ (by first|exact gZ|assumption|exact Gr.drew gZ|exact Gr.drew (by assumption))) (first|(go_at_call 97;refine(wR wr _ _ _ _ _ _ _ F1.out F2.out (by exact(show Gr wr _/\_ by assumption).1)).mono ?_;rintro e w4 ⟨rfl,g4⟩));clear c0 c1 c2 c3 d0 d1 d2 d3;obtain⟨_,c0,c1,c2,d0,d1,d2⟩:=T _ g4;go_wp2_with fail;go_region_held3(fun w'=>Gr wr w'/\w'.cell? ⟨b,off+q*4,none⟩=some (.int .i64 x.1.key.1)/\w'.cell? ⟨b,off+q*4+1,none⟩=some (.int .i64 x.1.key.2)/\w'.cell? ⟨b,off+q*4+1+1,none⟩=some (.slice x.2.1 x.1.f.length x.2.2)/\w'.cell? ⟨b,off+i*4,none⟩=some (.int .i64 y.1.key.1)/\w'.cell? ⟨b,off+i*4+1,none⟩=some (.int .i64 y.1.key.2)/\w'.cell? ⟨b,off+i*4+1+1,none⟩=some (.slice y.2.1 y.1.f.length y.2.2)) (exact T _ (by first|exact gZ|assumption|exact Gr.drew gZ|exact Gr.drew (by assumption))) (first|(go_at_call 97;refine(wR wr _ _ _ _ _ _ _ F2.out F1.out (by exact(show Gr wr _/\_ by assumption).1)).mono ?_;rintro e w5 ⟨rfl,g5⟩));clear c0 c1 c2 d0 d1 d2;obtain⟨_,c0,c1,c2,d0,d1,d2⟩:=T _ g5;have HV:Hid (iW cov x.1 y.1=(cov x.1.f y.1.f&&(!(cov y.1.f x.1.f)||klt x.1.key y.1.key))):=rfl;have G5:=hZ (Gr.call G.out g5);cases e1:cov x.1.f y.1.f with
   |false=>
    (have HR:Hid (oY (X.take (q+1)) y.1 n=false):=by show _=_;rw[HS.out,HV.out,e1];simp);go_wp2_with fail;go_quiet(fail);have G6:=hZ (G5.drewN nq);clear c0 c1 c2 d0 d1 d2;go_wp2_with fail;exact⟨⟨q+1,hql,by simp,G6,HR⟩,gD _ _ hql⟩
   |true=>
    cases e2:cov y.1.f x.1.f with
    |false=>have HR:=hZ (HT (by rw[HV.out,e1,e2];rfl) hs');go_wp2_with fail;go_quiet(fail);have G6:=hZ (G5.drewN nq);clear c0 c1 c2 d0 d1 d2;go_wp2_with fail;go_ret;exact⟨gG (by rw[HYY.out,HR.out]),G6.out⟩
    |true=>
     (have HVV:Hid (iW cov x.1 y.1=klt x.1.key y.1.key):=by show _=_;rw[HV.out,e1,e2];simp);go_wp2_with fail;go_region_held3(fun w'=>Gr wr w'/\w'.cell? ⟨b,off+q*4,none⟩=some (.int .i64 x.1.key.1)/\w'.cell? ⟨b,off+q*4+1,none⟩=some (.int .i64 x.1.key.2)/\w'.cell? ⟨b,off+q*4+1+1,none⟩=some (.slice x.2.1 x.1.f.length x.2.2)/\w'.cell? ⟨b,off+i*4,none⟩=some (.int .i64 y.1.key.1)/\w'.cell? ⟨b,off+i*4+1,none⟩=some (.int .i64 y.1.key.2)/\w'.cell? ⟨b,off+i*4+1+1,none⟩=some (.slice y.2.1 y.1.f.length y.2.2)) (exact T _ (by first|exact gZ|assumption|exact Gr.drew gZ|exact Gr.drew (by assumption))) (first|(go_at_call 78;refine(Yi wr x.1.key y.1.key _ (by exact(show Gr wr _/\_ by assumption).1)).mono ?_;rintro e w6 ⟨rfl,g6⟩));have G6:=hZ (Gr.call G.out g6);clear c0 c1 c2 d0 d1 d2;cases e3:klt x.1.key y.1.key with
     |false=>
      (have HR:Hid (oY (X.take (q+1)) y.1 n=false):=by show _=_;rw[HS.out,HVV.out,e3];simp);go_wp2_with fail;exact⟨⟨q+1,hql,by simp,G6,HR⟩,gD _ _ hql⟩
     |true=>have HR:=hZ (HT (by rw[HVV.out,e3]) hs');go_wp2_with fail;go_ret;exact⟨gG (by rw[HYY.out,HR.out]),G6.out⟩
  ·(have hqe:q=X.length:=by omega);subst hqe;have HR:Hid (oY X (hat X i).1 n=false):=by have:=HN.out;rwa[bB] at this
   go_wp2_with fail;go_ret;exact⟨gG (by rw[HR.out]),G.out⟩
theorem Tryz.infoRHeld:(Tryz.prog.info? 135).map (fun i=>(i.zero,i.size,i.bytes))=some (some (.agg #[.int .i64 0,.int .i64 0,.slice none 0 0,.int .i64 0]),4,48):=by kernel_rfl
def mV(k:Ky)(X:List Hm):List Hm:=X.filter fun x=>!(x.1.key==k)
theorem Pj(k:Ky)(X:List Hm)(q:Nat)(h:q<X.length):mV k (X.take (q+1))=mV k (X.take q)++(if(hat X q).1.key=k then[] else[hat X q]):=by unfold mV hat;rw[aW h,dT,aI,aJ h];by_cases hk:X[q].1.key=k<;>simp[hk]
theorem Uj(k:Ky)(X:List Hm)(q:Nat):(mV k (X.take q)).length<=X.length:=by unfold mV;exact aA (aX _ _) (dK q X)
theorem Ug(TB HB nb hcap:Nat)(ad:Option Addr)(cap:Nat)(X:List Hm)(w:World)(b:Nat)(hb:b<nb)(k:Ky)(htb:w.cell? ⟨TB,0,none⟩=some (.slice (some ⟨HB,0,none⟩) nb hcap))(hhb:w.cell? ⟨HB,b,none⟩=some (.slice ad X.length cap))(htl:TB<w.heap.size)(hhl:HB<w.heap.size)(hfz:w.frozen? ⟨HB,b,none⟩=false)(hrow:jM w ad (hH X))(hlen:X.length<=1048576):Calls prog 49 #[.pointer (some ⟨TB,0,none⟩),.int .i64 b,.agg #[.int .i64 k.1,.int .i64 k.2]] w fun e w'=>e=.returned (.tuple #[])/\∃w1 va vk,Gr w w1/\w1.ownsRow w.heap.size 135 4 (.slice va (mV k X).length vk) (mV k X).length (hH (mV k X))/\w'=w1.setCell ⟨HB,b,none⟩ (.slice va (mV k X).length vk):=by
 obtain⟨i0,hi,hz0,hz1,hz2⟩:=info_parts Tryz.infoRHeld;have ROW:=hZ hrow;have CT:Hid (∀W,Gr w W->W.cell? ⟨TB,0,none⟩=some (.slice (some ⟨HB,0,none⟩) nb hcap)/\W.cell? ⟨HB,b,none⟩=some (.slice ad X.length cap)):=fun W g=>by rw[(gP g).1 _ _ htl,(gP g).1 _ _ hhl];exact⟨htb,hhb⟩
 have FZ:Hid (∀W,Gr w W->W.frozen? ⟨HB,b,none⟩=false):=fun W g=>by rw[(gP g).2 _ _ hhl];exact hfz
 clear hrow htb hhb hfz;obtain⟨k1,k2⟩:=k;go_enter func49,ntmps49;go_wp2_with fail;have G0:=hZ ((Gr.refl w).alloc (.cells #[.int .i64 k1,.int .i64 k2] 133));have P0:=hZ (fY w (.cells #[.int .i64 k1,.int .i64 k2] 133));have HSZ:Hid ((w.alloc (.cells #[.int .i64 k1,.int .i64 k2] 133)).heap.size=w.heap.size+1):=by show _=_;simp
 generalize w.alloc (.cells #[.int .i64 k1,.int .i64 k2] 133)=w1 at *;go_loopw [6,7] (fun v i wr=>∃(q:Nat)(va:Option Addr)(vk:Nat),q<=X.length/\v=.slice va (mV (k1,k2) (X.take q)).length vk/\i=.int .i64 q/\Hid (Gr w1 wr)/\Hid (wr.ownsRow w1.heap.size 135 4 v (mV (k1,k2) (X.take q)).length (hH (mV (k1,k2) (X.take q))))) (fun _ i _=>X.length-(intOf i).toNat);case atStart=>exact⟨0,none,0,zZ,rfl,rfl,gZ,bF _ _ _ _⟩
 case round=>
  obtain⟨q,va,vk,hq,rfl,rfl,G,O⟩:=hrel;have P1:=hZ (gK G.out P0.out);have p0:wr.cell? ⟨w.heap.size,0,none⟩=some (.int .i64 k1):=by rw[cZ P1.out];rfl
  have p1:wr.cell? ⟨w.heap.size,1,none⟩=some (.int .i64 k2):=by rw[cZ P1.out];rfl
  obtain⟨t0,t1⟩:=CT _ (Gr.call G0.out G.out);have HLN:=hZ (Uj (k1,k2) X q);by_cases hql:q<X.length
  ·have HS:=hZ (Pj (k1,k2) X q hql);obtain⟨b',off,rfl,hb',c0,c1,c2,c3⟩:=(ROW.gr (Gr.call G0.out G.out)).hold hql;generalize hat X q=x at *;by_cases e1:x.1.key.1=k1/\x.1.key.2=k2
   ·obtain⟨e1,e2⟩:=e1;(have HR:Hid (mV (k1,k2) (X.take (q+1))=mV (k1,k2) (X.take q)):=by show _=_;rw[HS.out,if_pos (Prod.ext e1 e2),aZ]);rw[e1] at c0;rw[e2] at c1;go_wp2_with fail;go_quiet(fail);have G2:=hZ (G.drewN nq);have O2:=hZ (gO O.out ((Gr.refl wr).drewN nq));clear c0 c1 c2 c3 p0 p1 t0 t1;go_wp2_with fail;exact⟨⟨q+1,va,vk,hql,by rw[HR.out],by simp,G2,by rw[HR.out];exact O2⟩,gD _ _ hql⟩
   ·(have HR:Hid (mV (k1,k2) (X.take (q+1))=mV (k1,k2) (X.take q)++[x]):=by show _=_;rw[HS.out,if_neg (fun h=>e1 ⟨by rw[h],by rw[h]⟩)]);have HW:=hZ (And.intro c0 (And.intro c1 (And.intro c2 c3)));by_cases e4:x.1.key.1=k1;all_goals
     first
      | (rw[e4] at c0
         (have e3:(x.1.key.2==k2)=false:=by simp;exact fun h=>e1 ⟨e4,h⟩);clear e1 e4;go_wp2_with fail;go_quiet(fail))
      | (have e3:(x.1.key.1==k1)=false:=by simp;exact e4
         clear e1 e4;go_wp2_with fail;go_quiet(fail))
     have g2:=(Gr.refl wr).drewN nq;have G2:=hZ (Gr.call G.out g2);have O2:=hZ (gO O.out g2);have hbw:=g2.lt hb';(have HC:Hid ((wr.drewN nq).cell? ⟨b',off+q*4,none⟩=some (.int .i64 x.1.key.1)/\(wr.drewN nq).cell? ⟨b',off+q*4+1,none⟩=some (.int .i64 x.1.key.2)/\(wr.drewN nq).cell? ⟨b',off+q*4+1+1,none⟩=some (.slice x.2.1 x.1.f.length x.2.2)/\(wr.drewN nq).cell? ⟨b',off+q*4+1+1+1,none⟩=some (.int .i64 x.1.fr)):=by simp only[Hid,(gP g2).1 b' _ hb'];exact HW.out);clear HW c0 c1 c2 c3 p0 p1 t0 t1 g2 P1 G O HS;generalize wr.drewN nq=w4 at *;obtain⟨t0,t1⟩:=CT _ (Gr.call G0.out G2.out);obtain⟨c0,c1,c2,c3⟩:=HC.out;go_wp2_with(at_builtin;refine wpList_append_own _ rfl _ _ 132 rfl w1.heap.size 135 i0 _ 4 48 underlying132 hi hz0 hz1 hz2 rfl (by decide) _ _ _ rfl (O2.alloc _) ⟨w4.heap.size,0,none⟩ 1 1 [.int .i64 x.1.key.1,.int .i64 x.1.key.2,.slice x.2.1 x.1.f.length x.2.2,.int .i64 x.1.fr] rfl rfl (World.news_of_block (jN rfl)) ?k2 ?k3 ?k4 ?k5 ?_);case k2=>intro t ht;simp at ht;rcases ht with rfl|rfl|rfl|rfl<;>rfl
     case k3=>have:=HLN.out;unfold maxLen;omega
     case k4=>have:=HLN.out;omega
     case k5=>simp;have:=G2.size;omega
     intro v5 w5 ho5 hg5 _;have low:=iC O2.out;have G5:Hid (Gr w1 w5):=Below.grown (G2.alloc _) hg5 (aA G2.size (by simp)) (fun q hq=>by have:=low q hq;omega);(have O5:Hid (w5.ownsRow w1.heap.size 135 4 v5 (mV (k1,k2) (X.take (q+1))).length (hH (mV (k1,k2) (X.take (q+1))))):=by show World.ownsRow _ _ _ _ _ _ _;rw[HR.out,kU,aG];exact ho5);obtain⟨ya,yk,rfl,_⟩:=gH O5.out;clear ho5 hg5 O2 low c0 c1 c2 c3 t0 t1;go_wp2_with fail;exact⟨⟨q+1,ya,yk,hql,rfl,by simp,G5,O5⟩,gD _ _ hql⟩
  ·(have hqe:q=X.length:=by omega);subst hqe;have OZ:=O;rw[bB] at OZ;have G2:=hZ (Gr.call G0.out G.out);have fz:=FZ _ G2.out;go_wp2_with fail;exact bodyPost_end (v:=.tuple #[]) (by simp[results,results49,go_sem]) rfl ⟨rfl,wr,va,vk,G2.out,qC OZ.out (by have:=HSZ.out;omega),rfl⟩
end Go.Proofs.YtecnfgikbmcgoabGreat
