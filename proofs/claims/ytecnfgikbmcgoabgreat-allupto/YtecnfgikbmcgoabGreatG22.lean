import Derived.Test.YtecnfgikbmcgoabGreatG21
set_option maxHeartbeats 8000000
set_option maxRecDepth 100000
namespace Go.Proofs.YtecnfgikbmcgoabGreat
open Go.Proofs.Tryz
open Go.RowKit
variable {Y:List Hm}{j:Nat}{w:World}{x:Hm}
def pD(h:Hm)(Y:List Hm):Bool:=Y.any fun x=>klt h.1.key x.1.key
def pL(h:Hm)(Y:List Hm):List Hm:=(Y.filter fun x=>klt x.1.key h.1.key)++(if pD h Y=true then h::(Y.filter fun x=>klt h.1.key x.1.key) else[])
def pE(h:Hm)(Y:List Hm):List Hm:=if pD h Y=true then pL h Y else pL h Y++[h]
def SrM(X:List Hm):Prop:=X.Pairwise fun x y=>klt x.1.key y.1.key=true
theorem oI(X:List Hm)(q:Nat)(h:q<X.length):X.take (q+1)=X.take q++[hat X q]:=by unfold hat;rw[aW h,aI,aJ h];rfl
theorem SrM.before{X:List Hm}(h:SrM X){q:Nat}(hq:q<X.length):∀y∈X.take q,klt y.1.key (hat X q).1.key=true:=by have:SrM (X.take (q+1)):=List.Pairwise.sublist (List.take_sublist _ _) h;rw[oI X q hq] at this;exact fun y hy=>(eR.1 this).2.2 y hy _ (by simp)
theorem Wn{h:Hm}(e:x.1.key=h.1.key):pL h (Y++[x])=pL h Y/\pD h (Y++[x])=pD h Y:=by
 have h1:pD h (Y++[x])=pD h Y:=by simp[pD,e,jS]
 exact⟨by simp[pL,h1,List.filter_append,e,jS],h1⟩
theorem Wo{h:Hm}(e:klt h.1.key x.1.key=true):pL h (Y++[x])=pL h Y++(if pD h Y=true then[x] else[h,x])/\pD h (Y++[x])=true:=by
 have e':=qG e;cases hd:pD h Y with
 |true=>simp[pL,List.filter_append,e,e',hd];simp_all[pD]
 |false=>
  have h0:Y.filter (fun x=>klt h.1.key x.1.key)=[]:=by rw[fF];intro y hy hk;have:pD h Y=true:=bT.2 ⟨y,hy,hk⟩;rw[hd] at this;cases this
  have h1:pD h (Y++[x])=true:=by simp[pD,e]
  simp[pL,List.filter_append,e,e',hd,h0,h1]
theorem Se{h:Hm}(e:klt x.1.key h.1.key=true)(hb:∀y∈Y,klt y.1.key x.1.key=true):pD h Y=false/\pL h (Y++[x])=pL h Y++[x]/\pD h (Y++[x])=false:=by
 have e':=qG e;have hd:pD h Y=false:=by
  cases hd:pD h Y with
  |false=>rfl
  |true=>obtain⟨y,hy,hk⟩:=bT.1 hd;have:=mE (mE hk (hb y hy)) e;rw[jS] at this;cases this
 have hd':pD h (Y++[x])=false:=by simp[pD,e'] ;simpa[pD] using hd
 refine⟨hd,?_,hd'⟩;simp[pL,List.filter_append,e,hd,hd']
theorem Zn(h:Hm)(Y:List Hm):(pL h Y).length<=Y.length+Y.length+1:=by have h1:=aX (fun x:Hm=>klt x.1.key h.1.key) Y;have h2:=aX (fun x:Hm=>klt h.1.key x.1.key) Y;unfold pL;split<;>simp<;>omega
theorem Yt(h:Hm)(X:List Hm):pE h X=(X.filter fun x=>klt x.1.key h.1.key)++h::(X.filter fun x=>klt h.1.key x.1.key):=by
 unfold pE pL;cases hd:pD h X with
 |true=>simp
 |false=>
  have h0:X.filter (fun x=>klt h.1.key x.1.key)=[]:=by rw[fF];intro y hy hk;have:pD h X=true:=bT.2 ⟨y,hy,hk⟩;rw[hd] at this;cases this
  simp[h0]
theorem Sf(h:Hm)(X:List Hm):(pE h X).map (·.1)=ins h.1 (X.map (·.1)):=by rw[Yt];simp[ins,List.filter_map,Function.comp_def]
theorem Hj(k:Ky)(X:List Hm):(mV k X).map (·.1)=del k (X.map (·.1)):=by simp[mV,del,List.filter_map,Function.comp_def]
theorem Sg{e:TypeId}{lo s n b:Nat}{v:Value}{cs:List Value}(h:w.ownsRow lo e s v n cs)(hb:Value.ownBlock v=some b):b<w.heap.size:=by
 rcases h.2 with⟨h6,_⟩|⟨b',cap',cur,h6,_,h7,_⟩
 ·rw[h6] at hb;simp[Value.ownBlock] at hb
 ·rw[h6] at hb;have:b'=b:=by simpa[Value.ownBlock] using hb
  subst this;exact fZ h7
theorem Wi(TB HB nb hcap:Nat)(ad:Option Addr)(cap:Nat)(X:List Hm)(h:Hm)(w:World)(b:Nat)(hb:b<nb)(htb:w.cell? ⟨TB,0,none⟩=some (.slice (some ⟨HB,0,none⟩) nb hcap))(hhb:w.cell? ⟨HB,b,none⟩=some (.slice ad X.length cap))(htl:TB<w.heap.size)(hhl:HB<w.heap.size)(hfz:w.frozen? ⟨HB,b,none⟩=false)(hrow:jM w ad (hH X))(hlen:X.length<=1048576)(hs:SrM X):Calls prog 46 #[.pointer (some ⟨TB,0,none⟩),.int .i64 b,.agg (hv h.1 h.2.1 h.2.2)] w fun e w'=>e=.returned (.tuple #[])/\∃w1 va vk,Gr w w1/\w1.ownsRow w.heap.size 135 4 (.slice va (pE h X).length vk) (pE h X).length (hH (pE h X))/\w'=w1.setCell ⟨HB,b,none⟩ (.slice va (pE h X).length vk):=by
 obtain⟨i0,hi,hz0,hz1,hz2⟩:=info_parts Tryz.infoRHeld;unfold hv;have ROW:=hZ hrow;have CT:Hid (∀W,Gr w W->W.cell? ⟨TB,0,none⟩=some (.slice (some ⟨HB,0,none⟩) nb hcap)/\W.cell? ⟨HB,b,none⟩=some (.slice ad X.length cap)):=fun W g=>by rw[(gP g).1 _ _ htl,(gP g).1 _ _ hhl];exact⟨htb,hhb⟩
 have FZ:Hid (∀W,Gr w W->W.frozen? ⟨HB,b,none⟩=false):=fun W g=>by rw[(gP g).2 _ _ hhl];exact hfz
 clear hrow htb hhb hfz;go_enter func46,ntmps46;go_wp2_with fail;have G0:=hZ ((Gr.refl w).alloc (.cells #[.int .i64 h.1.key.1,.int .i64 h.1.key.2,.slice h.2.1 h.1.f.length h.2.2,.int .i64 h.1.fr] 135));have P0:=hZ (fY w (.cells #[.int .i64 h.1.key.1,.int .i64 h.1.key.2,.slice h.2.1 h.1.f.length h.2.2,.int .i64 h.1.fr] 135));have HSZ:Hid ((w.alloc (.cells #[.int .i64 h.1.key.1,.int .i64 h.1.key.2,.slice h.2.1 h.1.f.length h.2.2,.int .i64 h.1.fr] 135)).heap.size=w.heap.size+1):=by show _=_;simp
 generalize w.alloc (.cells #[.int .i64 h.1.key.1,.int .i64 h.1.key.2,.slice h.2.1 h.1.f.length h.2.2,.int .i64 h.1.fr] 135)=w1 at *;go_loopw [6,7,8] (fun v d i wr=>∃(q:Nat)(va:Option Addr)(vk:Nat),q<=X.length/\v=.slice va (pL h (X.take q)).length vk/\d=.bool (pD h (X.take q))/\i=.int .i64 q/\Hid (Gr w1 wr)/\Hid (wr.ownsRow w1.heap.size 135 4 v (pL h (X.take q)).length (hH (pL h (X.take q))))) (fun _ _ i _=>X.length-(intOf i).toNat);case atStart=>exact⟨0,none,0,zZ,rfl,rfl,rfl,gZ,bF _ _ _ _⟩
 case round=>
  obtain⟨q,va,vk,hq,rfl,rfl,rfl,G,O⟩:=hrel;have P1:=hZ (gK G.out P0.out);have p0:wr.cell? ⟨w.heap.size,0,none⟩=some (.int .i64 h.1.key.1):=by rw[cZ P1.out];rfl
  have p1:wr.cell? ⟨w.heap.size,1,none⟩=some (.int .i64 h.1.key.2):=by rw[cZ P1.out];rfl
  have p2:wr.cell? ⟨w.heap.size,2,none⟩=some (.slice h.2.1 h.1.f.length h.2.2):=by rw[cZ P1.out];rfl
  have p3:wr.cell? ⟨w.heap.size,3,none⟩=some (.int .i64 h.1.fr):=by rw[cZ P1.out];rfl
  have hsl:w.heap.size<wr.heap.size:=fZ P1.out;obtain⟨t0,t1⟩:=CT _ (Gr.call G0.out G.out);have HLN:=hZ (Zn h (X.take q));have HLT:=hZ (dK q X);by_cases hql:q<X.length
  ·have HTK:=hZ (oI X q hql);have HBF:=hZ (hs.before hql);obtain⟨b',off,rfl,hb',c0,c1,c2,c3⟩:=(ROW.gr (Gr.call G0.out G.out)).hold hql;generalize hat X q=x at *;generalize X.take q=Y at *;rcases vA x.1.key h.1.key with hk|hk|hk
   ·obtain⟨u1,u2,u3⟩:=Se hk HBF.out;have HU:=hZ (And.intro u2 u3);have HA:=hZ (qG hk);rw[u1];clear u2 u3 u1;by_cases e4:x.1.key.1=h.1.key.1;all_goals
     first
      | (have e3:(x.1.key.2==h.1.key.2)=false:=by have:=sV.1 hk;simp;omega
         clear hk e4;go_wp2_with fail)
      | (have e3:(x.1.key.1==h.1.key.1)=false:=by simp;exact e4
         clear hk e4;go_wp2_with fail)
    all_goals
     refine(wL h.1.key x.1.key _).mono ?_;rw[HA.out];rintro e w4 ⟨rfl,g4⟩;have ga:=Gr.call ((Gr.refl wr).alloc (.cells #[.int .i64 x.1.key.1,.int .i64 x.1.key.2,.slice x.2.1 x.1.f.length x.2.2,.int .i64 x.1.fr] 135)) g4;have G4:=hZ (Gr.call G.out ga);have O4:=hZ (gO O.out ga);have XB:=hZ (gK g4 (fY wr (.cells #[.int .i64 x.1.key.1,.int .i64 x.1.key.2,.slice x.2.1 x.1.f.length x.2.2,.int .i64 x.1.fr] 135)));(have g0:w4.cell? ⟨wr.heap.size,0,none⟩=some (.int .i64 x.1.key.1):=by rw[cZ XB.out];rfl);(have g1:w4.cell? ⟨wr.heap.size,1,none⟩=some (.int .i64 x.1.key.2):=by rw[cZ XB.out];rfl);(have g2:w4.cell? ⟨wr.heap.size,2,none⟩=some (.slice x.2.1 x.1.f.length x.2.2):=by rw[cZ XB.out];rfl);(have g3:w4.cell? ⟨wr.heap.size,3,none⟩=some (.int .i64 x.1.fr):=by rw[cZ XB.out];rfl);clear c0 c1 c2 c3 p0 p1 p2 p3 t0 t1 g4 ga;go_wp2_with(at_builtin;refine wpList_append_own _ rfl _ _ 132 rfl w1.heap.size 135 i0 _ 4 48 underlying132 hi hz0 hz1 hz2 rfl (by decide) _ _ _ rfl (O4.alloc _) ⟨w4.heap.size,0,none⟩ 1 1 [.int .i64 x.1.key.1,.int .i64 x.1.key.2,.slice x.2.1 x.1.f.length x.2.2,.int .i64 x.1.fr] rfl rfl (World.news_of_block (jN rfl)) ?k2 ?k3 ?k4 ?k5 ?_);case k2=>intro t ht;simp at ht;rcases ht with rfl|rfl|rfl|rfl<;>rfl
     case k3=>have:=HLN.out;have:=HLT.out;unfold maxLen;(try simp only[aG,bA,cF]);omega
     case k4=>have:=HLN.out;have:=HLT.out;(try simp only[aG,bA,cF]);omega
     case k5=>simp;have:=G4.size;omega
     intro v5 w5 ho5 hg5 _;have low5:=iC O4.out;have G5:Hid (Gr w1 w5):=Below.grown (G4.alloc _) hg5 (aA G4.size (by simp)) (fun q hq=>by have:=low5 q hq;omega);(have O5:Hid (w5.ownsRow w1.heap.size 135 4 v5 (pL h Y++[x]).length (hH (pL h Y++[x]))):=by show World.ownsRow _ _ _ _ _ _ _;rw[kU,aG];exact ho5);(have OF:Hid (w5.ownsRow w1.heap.size 135 4 v5 (pL h (X.take (q+1))).length (hH (pL h (X.take (q+1))))):=by show World.ownsRow _ _ _ _ _ _ _;rw[HTK.out,HU.1];exact O5.out);obtain⟨ya,yk,rfl,_⟩:=gH OF.out;clear ho5 hg5 low5;go_wp2_with fail;exact⟨⟨q+1,ya,yk,hql,rfl,by rw[HTK.out,HU.2],by simp,G5,OF⟩,gD _ _ hql⟩
   ·(have e5:x.1.key.1=h.1.key.1:=by rw[hk]);have e6:x.1.key.2=h.1.key.2:=by rw[hk]
    obtain⟨u2,u3⟩:=Wn (Y:=Y) hk;have HU:=hZ (And.intro u2 u3);rw[e5] at c0;rw[e6] at c1;clear u2 u3 hk e5 e6;go_wp2_with fail;have ga:=(Gr.refl wr).alloc (.cells #[.int .i64 h.1.key.1,.int .i64 h.1.key.2,.slice x.2.1 x.1.f.length x.2.2,.int .i64 x.1.fr] 135);exact⟨⟨q+1,va,vk,hql,by rw[HTK.out,HU.1],by rw[HTK.out,HU.2],by simp,Gr.call G.out ga,by rw[HTK.out,HU.1];exact gO O.out ga⟩,gD _ _ hql⟩
   ·obtain⟨u2,u3⟩:=Wo (Y:=Y) hk;cases hd:pD h Y with
    |true=>
     rw[hd,if_pos rfl] at u2;have HU:=hZ (And.intro u2 u3);clear u2 u3 hd;by_cases e4:x.1.key.1=h.1.key.1;all_goals
      first
       | (have e3:(x.1.key.2==h.1.key.2)=false:=by have:=sV.1 hk;simp;omega
          clear hk e4;skip)
       | (have e3:(x.1.key.1==h.1.key.1)=false:=by simp;exact e4
          clear hk e4;skip)
     all_goals
      go_wp2_with(at_builtin;refine wpList_append_own _ rfl _ _ 132 rfl w1.heap.size 135 i0 _ 4 48 underlying132 hi hz0 hz1 hz2 rfl (by decide) _ _ _ rfl ((O.alloc _).alloc _) ⟨wr.heap.size+1,0,none⟩ 1 1 [.int .i64 x.1.key.1,.int .i64 x.1.key.2,.slice x.2.1 x.1.f.length x.2.2,.int .i64 x.1.fr] rfl rfl (World.news_of_block (jN (by simp))) ?k2 ?k3 ?k4 ?k5 ?_);case k2=>intro t ht;simp at ht;rcases ht with rfl|rfl|rfl|rfl<;>rfl
      case k3=>have:=HLN.out;have:=HLT.out;unfold maxLen;(try simp only[aG,bA,cF]);omega
      case k4=>have:=HLN.out;have:=HLT.out;(try simp only[aG,bA,cF]);omega
      case k5=>simp;have:=G.size;omega
      intro v5 w5 ho5 hg5 _;have low5:=iC O.out;have G5:Hid (Gr w1 w5):=Below.grown ((G.alloc _).alloc _) hg5 (aA G.size (by simp;omega)) (fun q hq=>by have:=low5 q hq;omega);(have O5:Hid (w5.ownsRow w1.heap.size 135 4 v5 (pL h Y++[x]).length (hH (pL h Y++[x]))):=by show World.ownsRow _ _ _ _ _ _ _;rw[kU,aG];exact ho5);(have OF:Hid (w5.ownsRow w1.heap.size 135 4 v5 (pL h (X.take (q+1))).length (hH (pL h (X.take (q+1))))):=by show World.ownsRow _ _ _ _ _ _ _;rw[HTK.out,HU.1];exact O5.out);obtain⟨ya,yk,rfl,_⟩:=gH OF.out;clear ho5 hg5 low5;go_wp2_with fail;exact⟨⟨q+1,ya,yk,hql,rfl,by rw[HTK.out,HU.2],by simp,G5,OF⟩,gD _ _ hql⟩
    |false=>
     rw[hd,if_neg (by simp)] at u2;have HU:=hZ (And.intro u2 u3);have HA:=hZ hk;clear u2 u3 hd;by_cases e4:x.1.key.1=h.1.key.1;all_goals
      first
       | (have e3:(x.1.key.2==h.1.key.2)=false:=by have:=sV.1 hk;simp;omega
          clear hk e4;go_wp2_with fail)
       | (have e3:(x.1.key.1==h.1.key.1)=false:=by simp;exact e4
          clear hk e4;go_wp2_with fail)
     all_goals
      refine(wL h.1.key x.1.key _).mono ?_;rw[HA.out];rintro e w4 ⟨rfl,g4⟩;have ga:=Gr.call ((Gr.refl wr).alloc (.cells #[.int .i64 x.1.key.1,.int .i64 x.1.key.2,.slice x.2.1 x.1.f.length x.2.2,.int .i64 x.1.fr] 135)) g4;have G4:=hZ (Gr.call G.out ga);have O4:=hZ (gO O.out ga);have XB:=hZ (gK g4 (fY wr (.cells #[.int .i64 x.1.key.1,.int .i64 x.1.key.2,.slice x.2.1 x.1.f.length x.2.2,.int .i64 x.1.fr] 135)));(have g0:w4.cell? ⟨wr.heap.size,0,none⟩=some (.int .i64 x.1.key.1):=by rw[cZ XB.out];rfl);(have g1:w4.cell? ⟨wr.heap.size,1,none⟩=some (.int .i64 x.1.key.2):=by rw[cZ XB.out];rfl);(have g2:w4.cell? ⟨wr.heap.size,2,none⟩=some (.slice x.2.1 x.1.f.length x.2.2):=by rw[cZ XB.out];rfl);(have g3:w4.cell? ⟨wr.heap.size,3,none⟩=some (.int .i64 x.1.fr):=by rw[cZ XB.out];rfl);clear c0 c1 c2 c3 p0 p1 p2 p3 t0 t1 g4 ga;have PH:=hZ (gK G4.out P0.out);have hx4:wr.heap.size<w4.heap.size:=fZ XB.out;(have p0:w4.cell? ⟨w.heap.size,0,none⟩=some (.int .i64 h.1.key.1):=by rw[cZ PH.out];rfl);(have p1:w4.cell? ⟨w.heap.size,1,none⟩=some (.int .i64 h.1.key.2):=by rw[cZ PH.out];rfl);(have p2:w4.cell? ⟨w.heap.size,2,none⟩=some (.slice h.2.1 h.1.f.length h.2.2):=by rw[cZ PH.out];rfl);(have p3:w4.cell? ⟨w.heap.size,3,none⟩=some (.int .i64 h.1.fr):=by rw[cZ PH.out];rfl);go_wp2_with(at_builtin;refine wpList_append_own _ rfl _ _ 132 rfl w1.heap.size 135 i0 _ 4 48 underlying132 hi hz0 hz1 hz2 rfl (by decide) _ _ _ rfl (O4.alloc _) ⟨w4.heap.size,0,none⟩ 1 1 [.int .i64 h.1.key.1,.int .i64 h.1.key.2,.slice h.2.1 h.1.f.length h.2.2,.int .i64 h.1.fr] rfl rfl (World.news_of_block (jN rfl)) ?k2 ?k3 ?k4 ?k5 ?_);case k2=>intro t ht;simp at ht;rcases ht with rfl|rfl|rfl|rfl<;>rfl
      case k3=>have:=HLN.out;have:=HLT.out;unfold maxLen;(try simp only[aG,bA,cF]);omega
      case k4=>have:=HLN.out;have:=HLT.out;(try simp only[aG,bA,cF]);omega
      case k5=>simp;have:=G4.size;omega
      intro v5 w5 ho5 hg5 _;have low5:=iC O4.out;have G5:Hid (Gr w1 w5):=Below.grown (G4.alloc _) hg5 (aA G4.size (by simp)) (fun q hq=>by have:=low5 q hq;omega);(have O5:Hid (w5.ownsRow w1.heap.size 135 4 v5 (pL h Y++[h]).length (hH (pL h Y++[h]))):=by show World.ownsRow _ _ _ _ _ _ _;rw[kU,aG];exact ho5);(have HX5:Hid (w5.heap[wr.heap.size]?=some (.cells #[.int .i64 x.1.key.1,.int .i64 x.1.key.2,.slice x.2.1 x.1.f.length x.2.2,.int .i64 x.1.fr] 135 (0,0))):=by show _=_;rw[hg5.block _ (by simp;omega) (fun h5=>by have:=Sg O.out h5.symm;omega),Below.heap_alloc _ _ _ (by omega)];exact XB.out);obtain⟨ya5,ym5,yk5,rfl⟩:=gL O5.out;clear ho5 hg5 low5 p0 p1 p2 p3 g0 g1 g2 g3;(have g0:w5.cell? ⟨wr.heap.size,0,none⟩=some (.int .i64 x.1.key.1):=by rw[cZ HX5.out];rfl);(have g1:w5.cell? ⟨wr.heap.size,1,none⟩=some (.int .i64 x.1.key.2):=by rw[cZ HX5.out];rfl);(have g2:w5.cell? ⟨wr.heap.size,2,none⟩=some (.slice x.2.1 x.1.f.length x.2.2):=by rw[cZ HX5.out];rfl);(have g3:w5.cell? ⟨wr.heap.size,3,none⟩=some (.int .i64 x.1.fr):=by rw[cZ HX5.out];rfl);go_wp2_with(at_builtin;refine wpList_append_own _ rfl _ _ 132 rfl w1.heap.size 135 i0 _ 4 48 underlying132 hi hz0 hz1 hz2 rfl (by decide) _ _ _ rfl (O5.alloc _) ⟨w5.heap.size,0,none⟩ 1 1 [.int .i64 x.1.key.1,.int .i64 x.1.key.2,.slice x.2.1 x.1.f.length x.2.2,.int .i64 x.1.fr] rfl rfl (World.news_of_block (jN rfl)) ?k2 ?k3 ?k4 ?k5 ?_);case k2=>intro t ht;simp at ht;rcases ht with rfl|rfl|rfl|rfl<;>rfl
      case k3=>have:=HLN.out;have:=HLT.out;unfold maxLen;(try simp only[aG,bA,cF]);omega
      case k4=>have:=HLN.out;have:=HLT.out;(try simp only[aG,bA,cF]);omega
      case k5=>simp;have:=G5.size;omega
      intro v6 w6 ho6 hg6 _;have low6:=iC O5.out;have G6:Hid (Gr w1 w6):=Below.grown (G5.alloc _) hg6 (aA G5.size (by simp)) (fun q hq=>by have:=low6 q hq;omega);(have O6:Hid (w6.ownsRow w1.heap.size 135 4 v6 (pL h Y++[h]++[x]).length (hH (pL h Y++[h]++[x]))):=by show World.ownsRow _ _ _ _ _ _ _;rw[kU,aG,aG];exact ho6);(have OF:Hid (w6.ownsRow w1.heap.size 135 4 v6 (pL h (X.take (q+1))).length (hH (pL h (X.take (q+1))))):=by show World.ownsRow _ _ _ _ _ _ _;rw[HTK.out,HU.1,show pL h Y++[h,x]=pL h Y++[h]++[x] by simp];exact O6.out);obtain⟨ya,yk,rfl,_⟩:=gH OF.out;clear ho6 hg6 low6;go_wp2_with fail;exact⟨⟨q+1,ya,yk,hql,rfl,by rw[HTK.out,HU.2],by simp,G6,OF⟩,gD _ _ hql⟩
  ·(have hqe:q=X.length:=by omega);subst hqe;rw[bB] at O HLN HLT;rw[bB];have G2:=hZ (Gr.call G0.out G.out);cases hd:pD h X with
   |true=>
    (have HE:Hid (pE h X=pL h X):=by show _=_;simp[pE,hd]);have fz:=FZ _ G2.out;clear hd;go_wp2_with fail;exact bodyPost_end (v:=.tuple #[]) (by simp[results,results46,go_sem]) rfl ⟨rfl,wr,va,vk,G2.out,by rw[HE.out];exact qC O.out (by have:=HSZ.out;omega),by rw[HE.out]⟩
   |false=>
    (have HE:Hid (pE h X=pL h X++[h]):=by show _=_;simp[pE,hd]);clear hd;go_wp2_with(at_builtin;refine wpList_append_own _ rfl _ _ 132 rfl w1.heap.size 135 i0 _ 4 48 underlying132 hi hz0 hz1 hz2 rfl (by decide) _ _ _ rfl (O.alloc _) ⟨wr.heap.size,0,none⟩ 1 1 [.int .i64 h.1.key.1,.int .i64 h.1.key.2,.slice h.2.1 h.1.f.length h.2.2,.int .i64 h.1.fr] rfl rfl (World.news_of_block (jN rfl)) ?k2 ?k3 ?k4 ?k5 ?_);case k2=>intro t ht;simp at ht;rcases ht with rfl|rfl|rfl|rfl<;>rfl
    case k3=>have:=HLN.out;have:=HLT.out;unfold maxLen;(try simp only[aG,bA,cF]);omega
    case k4=>have:=HLN.out;have:=HLT.out;(try simp only[aG,bA,cF]);omega
    case k5=>simp;have:=G.size;omega
    intro v5 w5 ho5 hg5 _;have low5:=iC O.out;have G5:Hid (Gr w1 w5):=Below.grown (G.alloc _) hg5 (aA G.size (by simp)) (fun q hq=>by have:=low5 q hq;omega);(have O5:Hid (w5.ownsRow w1.heap.size 135 4 v5 (pL h X++[h]).length (hH (pL h X++[h]))):=by show World.ownsRow _ _ _ _ _ _ _;rw[kU,aG];exact ho5);obtain⟨t5,t6⟩:=CT _ (Gr.call G0.out G5.out);have fz:=FZ _ (Gr.call G0.out G5.out);have GF:=hZ (Gr.call G0.out G5.out);obtain⟨ya,yk,rfl,_⟩:=gH O5.out;clear t0 t1 p0 p1 p2 p3 ho5 hg5 low5;go_wp2_with fail;exact bodyPost_end (v:=.tuple #[]) (by simp[results,results46,go_sem]) rfl ⟨rfl,w5,ya,yk,GF.out,by rw[HE.out];exact qC O5.out (by have:=HSZ.out;omega),by rw[HE.out];simp⟩
structure Rcl where
 num:Int
 at':Nat
 box:List (List Atr×Option Addr×Nat)
 bad:Option Addr
 bcap:Nat
 lost:Int
def rP(c:Rcl):List Value:=[.int .i64 c.num,.int .i64 (c.at':Int),.slice c.bad c.box.length c.bcap,.int .i64 c.lost]
def iF(l:List Rcl):List Value:=l.flatMap rP
def kat(l:List Rcl)(j:Nat):Rcl:=l.getD j ⟨0,0,[],none,0,0⟩
theorem kE{l:List Rcl}(h:j<l.length):kat l j∈l:=by unfold kat;exact jZ h _
theorem Bz:∀(L:List Rcl)(j:Nat),j<L.length->(iF L)[j*4]?=some (.int .i64 (kat L j).num)/\(iF L)[j*4+1]?=some (.int .i64 ((kat L j).at':Int))/\(iF L)[j*4+1+1]?=some (.slice (kat L j).bad (kat L j).box.length (kat L j).bcap)/\(iF L)[j*4+1+1+1]?=some (.int .i64 (kat L j).lost)
 |[],j,h=>by simp at h
 |x::l,0,_=>by simp[iF,rP,kat]
 |x::l,j+1,h=>by
  have ih:=Bz l j (by simpa using h);have e:∀k,(iF (x::l))[(j+1)*4+k]?=(iF l)[j*4+k]?:=fun k=>by
   (have:(j+1)*4+k=(j*4+k)+4:=by omega);rw[this];simp[iF,rP]
  have e0:=e 0;have e1:=e 1;have e2:=e 2;have e3:=e 3;simp only[fI] at e0;have hk:kat (x::l) (j+1)=kat l j:=by simp[kat]
  rw[hk];exact⟨e0.trans ih.1,e1.trans ih.2.1,e2.trans ih.2.2.1,e3.trans ih.2.2.2⟩
theorem Ny{K:List Rcl}(h:j<K.length):iF K≠[]:=by
 cases K with
 |nil=>cases h
 |cons a t=>simp[iF,rP]
theorem jM.clt{ad:Option Addr}{K:List Rcl}(h:jM w ad (iF K))(hj:j<K.length):∃b off,ad=some ⟨b,off,none⟩/\b<w.heap.size/\w.cell? ⟨b,off+j*4,none⟩=some (.int .i64 (kat K j).num)/\w.cell? ⟨b,off+j*4+1,none⟩=some (.int .i64 ((kat K j).at':Int))/\w.cell? ⟨b,off+j*4+1+1,none⟩=some (.slice (kat K j).bad (kat K j).box.length (kat K j).bcap)/\w.cell? ⟨b,off+j*4+1+1+1,none⟩=some (.int .i64 (kat K j).lost):=by
 rcases h with h|⟨b,off,h1,h2,h3⟩
 ·exact absurd h (Ny hj)
 ·obtain⟨c0,c1,c2,c3⟩:=Bz K j hj;have d0:=h3 _ _ c0;have d1:=h3 _ _ c1;have d2:=h3 _ _ c2;have d3:=h3 _ _ c3;simp only[<-dH] at d0 d1 d2 d3;exact⟨b,off,h1,h2,d0,d1,d2,d3⟩
theorem jU(TB:Nat)(ad:Option Addr)(cap:Nat)(cs:List Rcl)(n:Int)(w:World)(htb:w.cell? ⟨TB,2,none⟩=some (.slice ad cs.length cap))(hrow:jM w ad (iF cs))(hl:cs.length<=16):Calls prog 39 #[.pointer (some ⟨TB,0,none⟩),.int .i64 n] w fun e w'=>((∃j,j<cs.length/\(kat cs j).num=n/\e=.returned (.int .i64 (j:Int)))\/((∀c∈cs,c.num≠n)/\e=.returned (.int .i64 (-1))))/\w'=w:=by
 have ROW:=hZ hrow;clear hrow;go_enter func39,ntmps39;go_wp2_with fail;go_loop [5] (fun i=>∃q:Nat,q<=cs.length/\i=.int .i64 q/\Hid (∀j,j<q->(kat cs j).num≠n)) (fun i=>cs.length-(intOf i).toNat);case atStart=>exact⟨0,zZ,rfl,fun j hj=>absurd hj (cL j)⟩
 case round=>
  obtain⟨q,hq,rfl,HN⟩:=hrel;by_cases hql:q<cs.length
  ·obtain⟨b,off,rfl,hb,c0,_⟩:=ROW.clt hql;by_cases hk:(kat cs q).num=n
   ·have HK:=hZ hk;rw[hk] at c0;clear hk;go_wp2_with fail;go_ret;exact⟨Or.inl ⟨q,hql,HK.out,rfl⟩,rfl⟩
   ·have HK:Hid (∀j,j<q+1->(kat cs j).num≠n):=fun j hj=>by
     by_cases hjq:j<q
     ·exact HN j hjq
     ·(obtain rfl:j=q:=by omega);exact hk
    (have hk':((kat cs q).num==n)=false:=by simp[hk]);clear hk;generalize kat cs q=x at *;go_wp2_with fail;exact⟨⟨q+1,hql,by simp,HK⟩,gD _ _ hql⟩
  ·(have hqe:q=cs.length:=by omega);subst hqe;have HA:Hid (∀c∈cs,c.num≠n):=fun c hc=>by obtain⟨j,hj,rfl⟩:=bG hc;have:=HN j hj;unfold kat at this;rwa[aI,aJ hj] at this
   go_wp2_with fail;go_ret;exact⟨Or.inr ⟨HA.out,rfl⟩,rfl⟩
theorem Mj(TB HB nb hcap:Nat)(ac:Option Addr)(ccap:Nat)(cs:List Rcl)(c:Nat)(hc:c<cs.length)(ad:Option Addr)(cap:Nat)(X:List Hm)(id:Int)(w:World)(htb:w.cell? ⟨TB,0,none⟩=some (.slice (some ⟨HB,0,none⟩) nb hcap))(htc:w.cell? ⟨TB,2,none⟩=some (.slice ac cs.length ccap))(htl:TB<w.heap.size)(hrc:jM w ac (iF cs))(hat':(kat cs c).at'<nb)(hhb:w.cell? ⟨HB,(kat cs c).at',none⟩=some (.slice ad X.length cap))(hrow:jM w ad (hH X))(hlen:X.length<=1048576):Calls prog 45 #[.pointer (some ⟨TB,0,none⟩),.int .i64 c,.int .i64 id] w fun e w'=>e=.returned (.bool (X.any fun x=>x.1.key==((kat cs c).num,id)))/\Gr w w':=by
 obtain⟨cb,coff,rfl,hcb,k0,k1,_⟩:=hrc.clt hc;have ROW:=hZ hrow;have CT:Hid (∀W,Gr w W->W.cell? ⟨TB,2,none⟩=some (.slice (some ⟨cb,coff,none⟩) cs.length ccap)/\W.cell? ⟨cb,coff+c*4,none⟩=some (.int .i64 (kat cs c).num)):=fun W g=>by rw[(gP g).1 _ _ htl,(gP g).1 _ _ hcb];exact⟨htc,k0⟩
 clear hrow hrc;generalize(kat cs c).num=yn at *;generalize kat cs c=y at *;go_enter func45,ntmps45;go_wp2_with fail;go_quiet(fail);have G0:=hZ ((Gr.refl w).drewN nq);clear htb htc k0 k1 hhb;generalize w.drewN nq=w1 at *;go_wp2_with fail;go_loopw [8] (fun i wr=>∃q:Nat,q<=X.length/\i=.int .i64 q/\Hid (Gr w wr)/\Hid ((X.take q).any (fun x=>x.1.key==(yn,id))=false)) (fun i _=>X.length-(intOf i).toNat);case atStart=>exact⟨0,zZ,rfl,G0,by simp[Hid]⟩
 case round=>
  obtain⟨q,hq,rfl,G,HN⟩:=hrel;obtain⟨t0,t1⟩:=CT _ G.out;by_cases hql:q<X.length
  ·obtain⟨b,off,rfl,hb,c0,c1,_,_⟩:=(ROW.gr G.out).hold hql;(have HS:Hid ((X.take (q+1)).any (fun x=>x.1.key==(yn,id))=((hat X q).1.key==(yn,id))):=by show _=_;rw[oF _ X q _ hql,HN.out,fA];rfl);have HT:Hid (((hat X q).1.key==(yn,id))=true->X.any (fun x=>x.1.key==(yn,id))=true):=fun h=>bT.2 ⟨_,nY hql,h⟩;generalize(hat X q).1.key=z at *;obtain⟨z1,z2⟩:=z;by_cases e1:z1=yn
   ·by_cases e2:z2=id
    ·subst e1 e2;have HR:=hZ (HT (by simp));go_wp2_with fail;go_quiet(fail);have G2:=hZ (G.drewN nq);clear c0 c1 t0 t1;go_wp2_with fail;go_ret;exact⟨gG (by rw[HR.out]),G2.out⟩
    ·(have HR:Hid (((z1,z2)==(yn,id))=false):=by show _=_;simp[e2]);have e3:(z2==id)=false:=by simp[e2]
     go_wp2_with fail;go_quiet(fail);have G2:=hZ (G.drewN nq);clear c0 c1 t0 t1;go_wp2_with fail;exact⟨⟨q+1,hql,by simp,G2,HS.trans HR.out⟩,gD _ _ hql⟩
   ·(have HR:Hid (((z1,z2)==(yn,id))=false):=by show _=_;simp[e1]);have e3:(z1==yn)=false:=by simp[e1]
    go_wp2_with fail;go_quiet(fail);have G2:=hZ (G.drewN nq);clear c0 c1 t0 t1;go_wp2_with fail;exact⟨⟨q+1,hql,by simp,G2,HS.trans HR.out⟩,gD _ _ hql⟩
  ·(have hqe:q=X.length:=by omega);subst hqe;have HR:Hid (X.any (fun x=>x.1.key==(yn,id))=false):=by have:=HN.out;rwa[bB] at this
   go_wp2_with fail;go_ret;exact⟨gG (by rw[HR.out]),G.out⟩
structure Rms where
 ms:Ms (List Wnt) (List Atr)
 ad:Option Addr
 cap:Nat
structure Rln where
 fr:Nat
 to:Nat
 q:List Rms
 qad:Option Addr
 qcap:Nat
 told:List Ky
 tad:Option Addr
 tcap:Nat
def pP(c:Rln):List Value:=[.int .i64 (c.fr:Int),.int .i64 (c.to:Int),.slice c.qad c.q.length c.qcap,.slice c.tad c.told.length c.tcap]
def iH(l:List Rln):List Value:=l.flatMap pP
def gE(l:List Rln)(j:Nat):Rln:=l.getD j ⟨0,0,[],none,0,[],none,0⟩
theorem kG{l:List Rln}(h:j<l.length):gE l j∈l:=by unfold gE;exact jZ h _
theorem zP:∀(L:List Rln)(j:Nat),j<L.length->(iH L)[j*4]?=some (.int .i64 ((gE L j).fr:Int))/\(iH L)[j*4+1]?=some (.int .i64 ((gE L j).to:Int))/\(iH L)[j*4+1+1]?=some (.slice (gE L j).qad (gE L j).q.length (gE L j).qcap)/\(iH L)[j*4+1+1+1]?=some (.slice (gE L j).tad (gE L j).told.length (gE L j).tcap)
 |[],j,h=>by simp at h
 |x::l,0,_=>by simp[iH,pP,gE]
 |x::l,j+1,h=>by
  have ih:=zP l j (by simpa using h);have e:∀k,(iH (x::l))[(j+1)*4+k]?=(iH l)[j*4+k]?:=fun k=>by
   (have:(j+1)*4+k=(j*4+k)+4:=by omega);rw[this];simp[iH,pP]
  have e0:=e 0;have e1:=e 1;have e2:=e 2;have e3:=e 3;simp only[fI] at e0;have hk:gE (x::l) (j+1)=gE l j:=by simp[gE]
  rw[hk];exact⟨e0.trans ih.1,e1.trans ih.2.1,e2.trans ih.2.2.1,e3.trans ih.2.2.2⟩
theorem Jq{K:List Rln}(h:j<K.length):iH K≠[]:=by
 cases K with
 |nil=>cases h
 |cons a t=>simp[iH,pP]
theorem jM.lnk{ad:Option Addr}{K:List Rln}(h:jM w ad (iH K))(hj:j<K.length):∃b off,ad=some ⟨b,off,none⟩/\b<w.heap.size/\w.cell? ⟨b,off+j*4,none⟩=some (.int .i64 ((gE K j).fr:Int))/\w.cell? ⟨b,off+j*4+1,none⟩=some (.int .i64 ((gE K j).to:Int))/\w.cell? ⟨b,off+j*4+1+1,none⟩=some (.slice (gE K j).qad (gE K j).q.length (gE K j).qcap)/\w.cell? ⟨b,off+j*4+1+1+1,none⟩=some (.slice (gE K j).tad (gE K j).told.length (gE K j).tcap):=by
 rcases h with h|⟨b,off,h1,h2,h3⟩
 ·exact absurd h (Jq hj)
 ·obtain⟨c0,c1,c2,c3⟩:=zP K j hj;have d0:=h3 _ _ c0;have d1:=h3 _ _ c1;have d2:=h3 _ _ c2;have d3:=h3 _ _ c3;simp only[<-dH] at d0 d1 d2 d3;exact⟨b,off,h1,h2,d0,d1,d2,d3⟩
theorem Eb(TB HB nb hcap:Nat)(w:World)(b from_:Int)(htb:w.cell? ⟨TB,0,none⟩=some (.slice (some ⟨HB,0,none⟩) nb hcap))(hb:b<0\/(nb:Int)<=b):Calls prog 65 #[.pointer (some ⟨TB,0,none⟩),.int .i64 b,.int .i64 from_] w fun e w'=>e=.returned (.tuple #[.slice none 0 0,.int .i64 5])/\w'=w:=by
 by_cases h0:b<0
 ·go_enter func65,ntmps65;go_wp2_with fail;exact bodyPost_ret (v:=.tuple #[.slice none 0 0,.int .i64 5]) (by simp[results,results65,go_sem]) rfl ⟨rfl,rfl⟩
 ·have h1:(nb:Int)<=b:=by omega
  clear hb;go_enter func65,ntmps65;go_wp2_with fail;exact bodyPost_ret (v:=.tuple #[.slice none 0 0,.int .i64 5]) (by simp[results,results65,go_sem]) rfl ⟨rfl,rfl⟩
def isLk(b:Nat)(from_:Int)(l:Rln):Bool:=((l.fr:Int)==(b:Int))&&((l.to:Int)==from_)
def fromM(from_:Int)(X:List Hm):List Ky:=(X.filter fun x=>x.1.fr==from_).map fun x=>x.1.key
theorem Tryz.infoRKey:(Tryz.prog.info? 133).map (fun i=>(i.zero,i.size,i.bytes))=some (some (.agg #[.int .i64 0,.int .i64 0]),2,16):=by kernel_rfl
def HfP(c:Bool)(e:Ending)(w w':World)(l:List Ky):Prop:=(c=true->∃v,e=.returned (.tuple #[v,.int .i64 0])/\w'.ownsRow w.heap.size 133 2 v l.length (hG l))/\(c=false->e=.returned (.tuple #[.slice none 0 0,.int .i64 5]))
theorem Kc(from_:Int)(X:List Hm)(q:Nat)(h:q<X.length):fromM from_ (X.take (q+1))=fromM from_ (X.take q)++(if(hat X q).1.fr=from_ then[(hat X q).1.key] else[]):=by unfold fromM;rw[oI X q h,dT,aS];by_cases hk:(hat X q).1.fr=from_<;>simp[hk]
theorem Pd(from_:Int)(X:List Hm)(q:Nat):(fromM from_ (X.take q)).length<=X.length:=by unfold fromM;rw[aB];exact aA (aX _ _) (dK q X)
theorem Ea(TB HB nb hcap:Nat)(al:Option Addr)(lcap:Nat)(K:List Rln)(hK:K.length<=14)(ad:Option Addr)(cap:Nat)(X:List Hm)(b:Nat)(hb:b<nb)(from_:Int)(w:World)(htb:w.cell? ⟨TB,0,none⟩=some (.slice (some ⟨HB,0,none⟩) nb hcap))(htk:w.cell? ⟨TB,1,none⟩=some (.slice al K.length lcap))(htl:TB<w.heap.size)(hhl:HB<w.heap.size)(hrk:jM w al (iH K))(hhb:w.cell? ⟨HB,b,none⟩=some (.slice ad X.length cap))(hrow:jM w ad (hH X))(hlen:X.length<=1048576):Calls prog 65 #[.pointer (some ⟨TB,0,none⟩),.int .i64 b,.int .i64 from_] w fun e w'=>HfP ((from_==-1)||K.any (isLk b from_)) e w w' (fromM from_ X)/\Gr w w':=by
 obtain⟨i0,hi,hz0,hz1,hz2⟩:=info_parts Tryz.infoRKey;have ROW:=hZ hrow;have RK:=hZ hrk;have CT:Hid (∀W,Gr w W->W.cell? ⟨TB,0,none⟩=some (.slice (some ⟨HB,0,none⟩) nb hcap)/\W.cell? ⟨TB,1,none⟩=some (.slice al K.length lcap)/\W.cell? ⟨HB,b,none⟩=some (.slice ad X.length cap)):=fun W g=>by rw[(gP g).1 _ _ htl,(gP g).1 _ _ htl,(gP g).1 _ _ hhl];exact⟨htb,htk,hhb⟩
 clear hrow hrk;go_enter func65,ntmps65;go_wp2_with fail;generalize hf0:(from_==-1)=f0 at *;have HF0:=hZ hf0;clear hf0;go_loop [8,9] (fun d i=>∃(q:Nat)(is:Bool),q<=K.length/\d=.bool is/\i=.int .i64 q/\Hid (is=(f0||(K.take q).any (isLk b from_)))) (fun _ i=>K.length-(intOf i).toNat);case atStart=>exact⟨0,f0,zZ,rfl,rfl,by show _=_;simp⟩
 case round=>
  obtain⟨q,is,hq,rfl,rfl,HI⟩:=hrel;by_cases hql:q<K.length
  ·have HS:Hid ((K.take (q+1)).any (isLk b from_)=((K.take q).any (isLk b from_)||isLk b from_ (gE K q))):=oF _ K q _ hql;obtain⟨lb,loff,rfl,hlb,c0,c1,_,_⟩:=RK.lnk hql;generalize gE K q=x at *;have HL:Hid (isLk b from_ x=(((x.fr:Int)==(b:Int))&&((x.to:Int)==from_))):=rfl;cases is with
   |true=>
    (have HN:Hid (true=(f0||(K.take (q+1)).any (isLk b from_))):=by show _=_;rw[HS.out,<-Bool.or_assoc,<-HI.out];rfl);go_wp2_with fail;exact⟨⟨q+1,true,hql,rfl,by simp,HN⟩,gD _ _ hql⟩
   |false=>
    (have HN:Hid (isLk b from_ x=(f0||(K.take (q+1)).any (isLk b from_))):=by show _=_;rw[HS.out,<-Bool.or_assoc,<-HI.out];rfl);by_cases e1:(x.fr:Int)=(b:Int)
    ·(have e2:((x.fr:Int)==(b:Int))=true:=by simpa using e1);have HM:Hid (isLk b from_ x=((x.to:Int)==from_)):=by show _=_;rw[HL.out,e2];rfl
     rw[e1] at c0;clear e1 e2;go_wp2_with fail;exact⟨⟨q+1,_,hql,rfl,by simp,HM.symm.trans HN.out⟩,gD _ _ hql⟩
    ·(have e2:((x.fr:Int)==(b:Int))=false:=by simpa using e1);have HM:Hid (isLk b from_ x=false):=by show _=_;rw[HL.out,e2];rfl
     clear e1;go_wp2_with fail;exact⟨⟨q+1,_,hql,rfl,by simp,HM.symm.trans HN.out⟩,gD _ _ hql⟩
  ·(have hqe:q=K.length:=by omega);subst hqe;rw[bB] at HI;cases is with
   |false=>go_wp2_with fail;exact bodyPost_ret (v:=.tuple #[.slice none 0 0,.int .i64 5]) (by simp[results,results65,go_sem]) rfl ⟨⟨fun h=>(by rw[HF0.out,<-HI.out] at h;cases h),fun _=>rfl⟩,gZ⟩
   |true=>
    go_wp2_with fail;(have HC:Hid (((from_==-1)||K.any (isLk b from_))=true):=by show _=_;rw[HF0.out,<-HI.out]);clear HI HF0 htb htk hhb;go_loopw [10,11] (fun v i wr=>∃(q:Nat)(va:Option Addr)(vk:Nat),q<=X.length/\v=.slice va (fromM from_ (X.take q)).length vk/\i=.int .i64 q/\Hid (Gr w wr)/\Hid (wr.ownsRow w.heap.size 133 2 v (fromM from_ (X.take q)).length (hG (fromM from_ (X.take q))))) (fun _ i _=>X.length-(intOf i).toNat);case atStart=>exact⟨0,none,0,zZ,rfl,rfl,gZ,bF _ _ _ _⟩
    case round=>
     obtain⟨q,va,vk,hq,rfl,rfl,G,O⟩:=hrel;obtain⟨t0,_,t1⟩:=CT _ G.out;have HLN:=hZ (Pd from_ X q);by_cases hql:q<X.length
     ·have HS:=hZ (Kc from_ X q hql);obtain⟨b',off,rfl,hb',c0,c1,c2,c3⟩:=(ROW.gr G.out).hold hql;generalize hat X q=x at *;by_cases e1:x.1.fr=from_
      ·(have HR:Hid (fromM from_ (X.take (q+1))=fromM from_ (X.take q)++[x.1.key]):=by show _=_;rw[HS.out,if_pos e1]);rw[e1] at c3;clear e1;go_wp2_with(at_builtin;refine wpList_append_own _ rfl _ _ 115 rfl w.heap.size 133 i0 _ 2 16 underlying115 hi hz0 hz1 hz2 rfl (by decide) _ _ _ rfl (O.alloc _) ⟨wr.heap.size,0,none⟩ 1 1 [.int .i64 x.1.key.1,.int .i64 x.1.key.2] rfl rfl (World.news_of_block (jN rfl)) ?k2 ?k3 ?k4 ?k5 ?_);case k2=>intro t ht;simp at ht;rcases ht with rfl|rfl<;>rfl
       case k3=>have:=HLN.out;unfold maxLen;omega
       case k4=>have:=HLN.out;omega
       case k5=>simp;have:=G.size;omega
       intro v5 w5 ho5 hg5 _;have low5:=iC O.out;have G5:Hid (Gr w w5):=Below.grown (G.alloc _) hg5 (aA G.size (by simp)) (fun q hq=>by have:=low5 q hq;omega);(have O5:Hid (w5.ownsRow w.heap.size 133 2 v5 (fromM from_ (X.take (q+1))).length (hG (fromM from_ (X.take (q+1))))):=by show World.ownsRow _ _ _ _ _ _ _;rw[HR.out,rX,aG];exact ho5);obtain⟨ya,yk,rfl,_⟩:=gH O5.out;clear ho5 hg5 low5 c0 c1 c2 c3 t0 t1;go_wp2_with fail;exact⟨⟨q+1,ya,yk,hql,rfl,by simp,G5,O5⟩,gD _ _ hql⟩
      ·(have HR:Hid (fromM from_ (X.take (q+1))=fromM from_ (X.take q)):=by show _=_;rw[HS.out,if_neg e1,aZ]);have e2:(x.1.fr==from_)=false:=by simp[e1]
       clear e1;go_wp2_with fail;exact⟨⟨q+1,va,vk,hql,by rw[HR.out],by simp,G,by rw[HR.out];exact O⟩,gD _ _ hql⟩
     ·(have hqe:q=X.length:=by omega);subst hqe;rw[bB] at O;rw[bB];go_wp2_with fail;exact bodyPost_ret (v:=.tuple #[.slice va (fromM from_ X).length vk,.int .i64 0]) (by simp[results,results65,go_sem]) rfl ⟨⟨fun _=>⟨_,rfl,O.out⟩,fun h=>by rw[HC.out] at h;cases h⟩,G.out⟩
def mP(n:Int)(X:List Hm):List Hm:=X.filter fun x=>!(x.1.fr==n)&&!(oY X x.1 n)
theorem yG(n:Int)(X:List Hm):(mP n X).map (·.1)=told cov (X.map (·.1)) n:=by simp[mP,told,oY,List.filter_map,List.any_map,Function.comp_def]
theorem Ih(l:List Hw)(k:Ky):(l.map fun h=>h.key).any (fun x=>x==k)=lJ l k:=by simp[lJ,List.any_map,Function.comp_def]
def jL(n:Int)(X:List Hm)(q:Nat):List Hm:=(X.take q).filter fun x=>!(x.1.fr==n)&&!(oY X x.1 n)
theorem rK(n:Int)(X:List Hm)(q:Nat)(h:q<X.length):jL n X (q+1)=jL n X q++(if(hat X q).1.fr=n\/oY X (hat X q).1 n=true then[] else[hat X q]):=by
 unfold jL;rw[oI X q h,dT];by_cases h1:(hat X q).1.fr=n
 ·simp[h1]
 ·cases h2:oY X (hat X q).1 n<;>simp[h1,h2]
theorem qN(n:Int)(X:List Hm):jL n X X.length=mP n X:=by unfold jL mP;rw[bB]
theorem Ft(TB HB nb hcap:Nat)(w:World)(n b:Int)(htb:w.cell? ⟨TB,0,none⟩=some (.slice (some ⟨HB,0,none⟩) nb hcap))(hb:b<0\/(nb:Int)<=b):Calls prog 17 #[.pointer (some ⟨TB,0,none⟩),.int .i64 n,.int .i64 b] w fun e w'=>e=.returned (.int .i64 5)/\w'=w:=by
 by_cases h0:b<0
 ·go_enter func17,ntmps17;go_wp2_with fail;go_ret;exact⟨rfl,rfl⟩
 ·have h1:(nb:Int)<=b:=by omega
  clear hb;go_enter func17,ntmps17;go_wp2_with fail;go_ret;exact⟨rfl,rfl⟩
theorem yU(TB HB nb hcap:Nat)(ac:Option Addr)(ccap:Nat)(cs:List Rcl)(w:World)(n:Int)(b:Nat)(hb:b<nb)(htb:w.cell? ⟨TB,0,none⟩=some (.slice (some ⟨HB,0,none⟩) nb hcap))(htc:w.cell? ⟨TB,2,none⟩=some (.slice ac cs.length ccap))(hrc:jM w ac (iF cs))(hcl:cs.length<=16)(h:(∃c∈cs,c.num=n)\/15<cs.length):Calls prog 17 #[.pointer (some ⟨TB,0,none⟩),.int .i64 n,.int .i64 b] w fun e w'=>((∃c∈cs,c.num=n)->e=.returned (.int .i64 6))/\((∀c∈cs,c.num≠n)->e=.returned (.int .i64 7))/\w'=w:=by
 have CL:=hZ (jU TB ac ccap cs n w htc hrc hcl);have HH:=hZ h;clear h hrc;go_enter func17,ntmps17;go_wp2_with fail;refine CL.mono ?_;rintro e w1 ⟨hcase,hw⟩;subst hw;rcases hcase with⟨j,hj,hk,rfl⟩|⟨hno,rfl⟩
 ·have HK:=hZ hk;clear hk;go_wp2_with fail;go_ret;exact⟨fun _=>rfl,fun hall=>absurd HK.out (hall _ (kE hj)),rfl⟩
 ·have HN:=hZ hno;have h15:15<cs.length:=by
   rcases HH.out with⟨c,hc,e⟩|h
   ·exact absurd e (hno c hc)
   ·exact h
  clear hno;go_wp2_with fail;go_ret;exact⟨fun⟨c,hc,e⟩=>absurd e (HN c hc),fun _=>rfl,rfl⟩
theorem Ob(TB:Nat)(ac:Option Addr)(ccap:Nat)(cs:List Rcl)(w:World)(n id:Int)(v:Value)(htc:w.cell? ⟨TB,2,none⟩=some (.slice ac cs.length ccap))(hrc:jM w ac (iF cs))(hcl:cs.length<=16)(h:∀c∈cs,c.num≠n):Calls prog 20 #[.pointer (some ⟨TB,0,none⟩),.int .i64 n,.int .i64 id,v] w fun e w'=>e=.returned (.int .i64 5)/\w'=w:=by
 have CL:=hZ (jU TB ac ccap cs n w htc hrc hcl);have HH:=hZ h;clear h hrc;go_enter func20,ntmps20;go_wp2_with fail;refine CL.mono ?_;rintro e w1 ⟨hcase,hw⟩;subst hw;rcases hcase with⟨j,hj,hk,rfl⟩|⟨_,rfl⟩
 ·exact absurd hk (HH _ (kE hj))
 ·go_wp2_with fail;go_ret;exact⟨rfl,rfl⟩
theorem Oa(TB:Nat)(ac:Option Addr)(ccap:Nat)(cs:List Rcl)(w:World)(n id:Int)(htc:w.cell? ⟨TB,2,none⟩=some (.slice ac cs.length ccap))(hrc:jM w ac (iF cs))(hcl:cs.length<=16)(h:∀c∈cs,c.num≠n):Calls prog 22 #[.pointer (some ⟨TB,0,none⟩),.int .i64 n,.int .i64 id] w fun e w'=>e=.returned (.int .i64 5)/\w'=w:=by
 have CL:=hZ (jU TB ac ccap cs n w htc hrc hcl);have HH:=hZ h;clear h hrc;go_enter func22,ntmps22;go_wp2_with fail;refine CL.mono ?_;rintro e w1 ⟨hcase,hw⟩;subst hw;rcases hcase with⟨j,hj,hk,rfl⟩|⟨_,rfl⟩
 ·exact absurd hk (HH _ (kE hj))
 ·go_wp2_with fail;go_ret;exact⟨rfl,rfl⟩
theorem Oc(TB:Nat)(ac:Option Addr)(ccap:Nat)(cs:List Rcl)(w:World)(n:Int)(v:Value)(htc:w.cell? ⟨TB,2,none⟩=some (.slice ac cs.length ccap))(hrc:jM w ac (iF cs))(hcl:cs.length<=16)(h:∀c∈cs,c.num≠n):Calls prog 25 #[.pointer (some ⟨TB,0,none⟩),.int .i64 n,v] w fun e w'=>e=.returned (.int .i64 5)/\w'=w:=by
 have CL:=hZ (jU TB ac ccap cs n w htc hrc hcl);have HH:=hZ h;clear h hrc;go_enter func25,ntmps25;go_wp2_with fail;refine CL.mono ?_;rintro e w1 ⟨hcase,hw⟩;subst hw;rcases hcase with⟨j,hj,hk,rfl⟩|⟨_,rfl⟩
 ·exact absurd hk (HH _ (kE hj))
 ·go_wp2_with fail;go_ret;exact⟨rfl,rfl⟩
theorem Fq(TB:Nat)(ac:Option Addr)(ccap:Nat)(cs:List Rcl)(w:World)(n:Int)(htc:w.cell? ⟨TB,2,none⟩=some (.slice ac cs.length ccap))(hrc:jM w ac (iF cs))(hcl:cs.length<=16)(h:∀c∈cs,c.num≠n):Calls prog 59 #[.pointer (some ⟨TB,0,none⟩),.int .i64 n] w fun e w'=>e=.returned (.tuple #[.slice none 0 0,.int .i64 0,.int .i64 5])/\w'=w:=by
 have CL:=hZ (jU TB ac ccap cs n w htc hrc hcl);have HH:=hZ h;clear h hrc;go_enter func59,ntmps59;go_wp2_with fail;refine CL.mono ?_;rintro e w1 ⟨hcase,hw⟩;subst hw;rcases hcase with⟨j,hj,hk,rfl⟩|⟨_,rfl⟩
 ·exact absurd hk (HH _ (kE hj))
 ·go_wp2_with fail;exact bodyPost_ret (v:=.tuple #[.slice none 0 0,.int .i64 0,.int .i64 5]) (by simp[results,results59,go_sem]) rfl ⟨rfl,rfl⟩
def okF(f:List Wnt):Prop:=gN f=true/\∀x∈f,Wnt.Wf x
theorem Zm:Pre cov okF:=⟨fun _ h=>Xt h.1 h.1 h.2 (fun _ hx=>hx),fun _ _ _ a b c h1 h2=>Pm a.2 b.2 c.2 h1 h2⟩
section
variable {F E:Type}
variable {cov:F->F->Bool}{adj:Nat->Nat->Bool}{nxt:Nat->Nat->Int}{home:Int->Nat}{ok:F->Prop}{rank:Nat->Nat->Nat}
theorem Gj{nb:Nat}(N:Nx adj nxt)(Z:Nz nb adj nxt)(R:Rk adj nxt rank)(hnb:0<nb):sm nb (fun a=>sm nb fun b=>if adj a b=true then 1 else 0)+2=2*nb:=by
 have cell:∀a b,a<nb->b<nb->(if adj a b=true then 1 else 0)=(if nxt a 0=(b:Int) then 1 else 0)+(if nxt b 0=(a:Int) then 1 else 0):=by
  intro a b ha hb;have down:∀x y:Nat,nxt x 0=(y:Int)->adj y x=true:=by
   intro x y e;rcases R.nb x 0 with h|⟨m,h1,h2⟩
   ·rw[e] at h;omega
   ·(have:m=y:=by omega);rw[<-this];exact h2
  by_cases hab:adj a b=true
  ·rw[if_pos hab];by_cases h1:nxt a 0=(b:Int)
   ·have:=Z.excl a b 0 hnb hab h1;rw[if_pos h1,if_neg this]
   ·rw[if_neg h1,if_pos (N.back a b 0 hab h1)]
  ·rw[if_neg hab,if_neg (fun e=>hab (N.sym _ _ (down a b e))),if_neg (fun e=>hab (down b a e))]
 have e1:sm nb (fun a=>sm nb fun b=>if adj a b=true then 1 else 0)=sm nb (fun a=>sm nb fun b=>(if nxt a 0=(b:Int) then 1 else 0))+sm nb (fun a=>sm nb fun b=>(if nxt b 0=(a:Int) then 1 else 0)):=by rw[<-mS];refine mH nb (fun a ha=>?_);rw[<-mS];exact mH nb (fun b hb=>cell a b ha hb)
 have up:sm nb (fun a=>sm nb fun b=>(if nxt a 0=(b:Int) then 1 else 0))+1=nb:=by
  have:sm nb (fun a=>(sm nb fun b=>(if nxt a 0=(b:Int) then 1 else 0))+(if a=0 then 1 else 0))=sm nb fun _=>1:=by
   refine mH nb (fun a ha=>?_);by_cases h0:a=0
   ·subst h0;rw[if_pos rfl,mH nb (g:=fun _=>0) (fun b _=>if_neg (by rw[N.self];omega)),mY]
   ·rw[if_neg h0];rcases R.nb a 0 with h|⟨m,h1,h2⟩
    ·exact absurd (Z.one a 0 ha hnb h) h0
    ·rw[mH nb (g:=fun b=>if b=m then 1 else 0) (fun b _=>by
      by_cases hb:b=m
      ·rw[if_pos hb,if_pos (by rw[h1,hb])]
      ·rw[if_neg hb,if_neg (by rw[h1];omega)]),mG,if_pos (Z.inn m a h2).1]
  rw[mS,mG,if_pos hnb,nF] at this;omega
 have e2:=Cz (fun a b=>if nxt b 0=(a:Int) then 1 else 0) nb nb;rw[e1,e2];omega
end
section
variable {F E:Type}
structure Pc(E:Type) where
 num:Int
 at':Nat
 lost:Int
 box:List E
def Pc.hear(e:E)(c:Pc E):Pc E:=if c.box.length<16 then{ c with box:=c.box++[e] } else{ c with lost:=c.lost+1 }
def sd(h:Hd F):Bool×Int:=if h.fr=-1 then(true,h.key.1) else(false,h.fr)
def lP(mt:E->F->Bool)(l:List (Hd F))(s:Bool×Int)(e:E):Bool:=l.any fun h=>decide (sd h=s)&&mt e h.f
def jA(mt:E->F->Bool)(l:List (Hd F))(fr:Bool×Int)(e:E)(c:Pc E):Pc E:=if(true,c.num)≠fr/\lP mt l (true,c.num) e=true then c.hear e else c
def hrs(mt:E->F->Bool)(l:List (Hd F))(a:Nat)(m:Ms F E)(cs:List (Pc E)):List (Pc E):=
 match m with
 |.ev e=>cs.map (jA mt l (false,(a:Int)) e)
 |_=>cs
theorem Tx(e:E)(c:Pc E):(c.hear e).num=c.num/\(c.hear e).at'=c.at':=by unfold Pc.hear;split<;>exact⟨rfl,rfl⟩
theorem Pa(e:E)(c:Pc E):c.lost<=(c.hear e).lost/\(c.hear e).lost<=c.lost+1/\(c.box.length<=16->(c.hear e).box.length<=16):=by
 unfold Pc.hear;split
 ·rename_i h;refine⟨Int.le_refl _,by show c.lost<=c.lost+1;omega,fun _=>?_⟩;show(c.box++[e]).length<=16;rw[aG,fN];omega
 ·exact⟨by show c.lost<=c.lost+1;omega,Int.le_refl _,fun h=>h⟩
variable {cov:F->F->Bool}{adj:Nat->Nat->Bool}{nxt:Nat->Nat->Int}{home:Int->Nat}{ok:F->Prop}{rank:Nat->Nat->Nat}{mt:E->F->Bool}
theorem qV(l:List (Hd F))(fr:Bool×Int)(e:E)(c:Pc E):(jA mt l fr e c).num=c.num/\(jA mt l fr e c).at'=c.at':=by
 unfold jA;split
 ·exact Tx e c
 ·exact⟨rfl,rfl⟩
theorem rY(l:List (Hd F))(fr:Bool×Int)(e:E)(c:Pc E):c.lost<=(jA mt l fr e c).lost/\(jA mt l fr e c).lost<=c.lost+1/\(c.box.length<=16->(jA mt l fr e c).box.length<=16):=by
 unfold jA;split
 ·exact Pa e c
 ·exact⟨Int.le_refl _,by omega,fun h=>h⟩
theorem Dx{l:List (Hd F)}{a:Nat}{m:Ms F E}{cs:List (Pc E)}:(hrs mt l a m cs).map (fun c=>(c.num,c.at'))=cs.map fun c=>(c.num,c.at'):=by
 unfold hrs;split
 ·rw[bV];refine cC fun c _=>?_;have:=qV (mt:=mt) l (false,(a:Int)) (by assumption) c;show((jA mt l _ _ c).num,(jA mt l _ _ c).at')=_;rw[this.1,this.2]
 ·rfl
end
end Go.Proofs.YtecnfgikbmcgoabGreat
