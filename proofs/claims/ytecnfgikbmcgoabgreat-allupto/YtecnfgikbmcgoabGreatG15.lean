import Derived.Test.YtecnfgikbmcgoabGreatG14
set_option maxHeartbeats 8000000
set_option maxRecDepth 100000
namespace Go.Proofs.YtecnfgikbmcgoabGreat
open Go.Proofs.Tryz
open Go.RowKit
variable {BB base i x:Nat}{Es:List EE}{Fs:List FE}{ve vew vf vw:Value}{w w' wr:World}
def mkE(M:Int):List Value:=[.string ⟨#[]⟩,.int .i64 0,.int .i64 M,.string ⟨#[]⟩]
theorem Xc(M:Int):(mkE M).length=4:=rfl
theorem Dq(M:Int):0<(mkE M).length:=by rw[Xc];decide
theorem Dr(M:Int):∀u∈mkE M,u.oneCell'=true:=by simp[mkE,Value.oneCell']
theorem Nt(xs:List Value)(q:Nat)(M:Int)(h:q*4+4<=xs.length)(ht:xs.take (q*4)=rep q (mkE M)):(set4 xs (q*4) (.string ⟨#[]⟩) (.int .i64 0) (.int .i64 M) (.string ⟨#[]⟩)).take ((q+1)*4)=rep (q+1) (mkE M):=by rw[show(q+1)*4=q*4+4 by omega,Li _ _ _ _ _ _ h,ht,mZ,uK];rfl
def RE(BB base b1:Nat)(own:Option Nat)(M:Int)(n:Nat)(v vi:Value)(ls:List Value)(j:Nat)(x:Value)(w:World):Prop:=
 match j with
 |0=>x=.pointer (some ⟨BB,0,none⟩)
 |1=>x=.pointer (some ⟨BB,0,none⟩)
 |2=>x=.pointer (some ⟨BB,0,none⟩)
 |3=>x=.pointer (some ⟨BB,1,none⟩)
 |4=>x=vi
 |5=>x=v
 |6=>x=v
 |7=>x=.agg #[.string ⟨#[]⟩,.int .i64 0,.int .i64 M,.string ⟨#[]⟩]
 |8=>iZ own vi 86 1 #[.string ⟨#[]⟩,.int .i64 0,.int .i64 M,.string ⟨#[]⟩] x w
 |9=>Mk 86 base own b1 (mkE M) (n+1) x w
 |10=>x=v
 |11=>x=.agg #[.string ⟨#[]⟩,.int .i64 0,.int .i64 M,.string ⟨#[]⟩]
 |12=>x=.agg #[.string ⟨#[]⟩,.int .i64 0,.int .i64 M,.string ⟨#[]⟩]
 |13=>iZ own vi 86 2 #[.string ⟨#[]⟩,.int .i64 0,.int .i64 M,.string ⟨#[]⟩,.string ⟨#[]⟩,.int .i64 0,.int .i64 M,.string ⟨#[]⟩] x w
 |14=>Mk 86 base own b1 (mkE M) (n+2) x w
 |15=>x=v
 |16=>x=.agg #[.string ⟨#[]⟩,.int .i64 0,.int .i64 M,.string ⟨#[]⟩]
 |17=>x=.agg #[.string ⟨#[]⟩,.int .i64 0,.int .i64 M,.string ⟨#[]⟩]
 |18=>x=.agg #[.string ⟨#[]⟩,.int .i64 0,.int .i64 M,.string ⟨#[]⟩]
 |19=>iZ own vi 86 3 #[.string ⟨#[]⟩,.int .i64 0,.int .i64 M,.string ⟨#[]⟩,.string ⟨#[]⟩,.int .i64 0,.int .i64 M,.string ⟨#[]⟩,.string ⟨#[]⟩,.int .i64 0,.int .i64 M,.string ⟨#[]⟩] x w
 |20=>Mk 86 base own b1 (mkE M) (n+3) x w
 |21=>qZ 86 77 base b1 (mkE M) n v own vi x w
 |22=>sG 86 77 base own b1 (mkE M) n v vi ls x w
 |23=>x=.pointer (some ⟨BB,0,none⟩)
 |24=>x=.pointer (some ⟨BB,1,none⟩)
 |_=>True
theorem RE.st{b1:Nat}{own:Option Nat}{M:Int}{n:Nat}{v vi:Value}{ls:List Value}(i j:Nat)(x:Value)(wa wb:World)(hij:i≠j)(h:RE BB base b1 own M n v vi ls j x wa)(g:Gk 86 77 own base w (mkE M) n v vi ls (i≠22) wa wb):RE BB base b1 own M n v vi ls j x wb:=by
 match j,h,hij with
 |0,h,_=>exact h
 |1,h,_=>exact h
 |2,h,_=>exact h
 |3,h,_=>exact h
 |4,h,_=>exact h
 |5,h,_=>exact h
 |6,h,_=>exact h
 |7,h,_=>exact h
 |8,h,_=>exact iZ.gd h g
 |9,h,_=>exact Mk.gd h g
 |10,h,_=>exact h
 |11,h,_=>exact h
 |12,h,_=>exact h
 |13,h,_=>exact iZ.gd h g
 |14,h,_=>exact Mk.gd h g
 |15,h,_=>exact h
 |16,h,_=>exact h
 |17,h,_=>exact h
 |18,h,_=>exact h
 |19,h,_=>exact iZ.gd h g
 |20,h,_=>exact Mk.gd h g
 |21,h,_=>exact qZ.gd h g
 |22,h,hij=>exact sG.gd h g hij
 |23,h,_=>exact h
 |24,h,_=>exact h
 |_+25,_,_=>trivial
structure EKE(BB MB:Nat)(v:Value)(a:Act):Prop where
 sz:49<=a.tmps.size
 df:a.defers=[]
 t0:a.eval (.tmp 0)=.pointer (some ⟨BB,0,none⟩)
 t1:a.eval (.tmp 1)=v
 t4:a.eval (.tmp 4)=.pointer (some ⟨MB,0,none⟩)
theorem EKE.put{MB:Nat}{v:Value}(a:Act)(i:Nat)(x:Value)(hi:i<25)(h:EKE BB MB v a):EKE BB MB v (a.put (some (24+i)) x):=by
 refine⟨by simpa[Act.put] using h.sz,h.df,?_,?_,?_⟩<;>rw[iX (by omega)]
 ·exact h.t0
 ·exact h.t1
 ·exact h.t4
theorem Be(BB base:Nat)(a0 a2 a3 a4 a5:Value)(ad lad:Option Addr)(n cap lc:Nat)(xs ls:List Value)(w:World)(hn:n<=1099511627776)(hln:ls.length<=1099511627776)(hbx:w.heap[BB]?=some (.cells #[a0,.slice lad ls.length lc,a2,a3,a4,a5] 39 (0,0)))(hle:base<=w.heap.size)(hvi:w.ownsRow 0 77 1 (.slice lad ls.length lc) ls.length ls)(hv:w.ownsRow base 86 4 (.slice ad n cap) n xs):Calls prog 89 #[.pointer (some ⟨BB,0,none⟩),.slice ad n cap] w fun e w'=>e=.returned (.tuple #[])/\∃vi' us,w'.heap[BB]?=some (.cells #[a0,vi',a2,a3,a4,a5] 39 (0,0)) /\Kept 86 77 (Value.ownBlock (.slice ad n cap)) base w w' (mkE (-1-ls.length)) n (.slice ad n cap) vi' ls us/\(∀z,z<w.heap.size->Value.ownBlock (.slice ad n cap)≠some z->Value.ownBlock (.slice lad ls.length lc)≠some z->z≠BB->w'.heap[z]?=w.heap[z]?)/\∀q,vi'.ownBlock=some q->Value.ownBlock (.slice lad ls.length lc)=some q\/w.heap.size<=q:=by
 obtain⟨i0,hi',hz0,hz1,hz2⟩:=info_parts Tryz.infoAttrA;obtain⟨i1,hi1,hz01,hz11,hz21⟩:=info_parts Tryz.infoSlAA;have c0:w.cell? ⟨BB,1,none⟩=some (.slice lad ls.length lc):=by rw[cZ hbx];rfl
 have hw1:wrap64 (-1-(ls.length:Int))=-1-(ls.length:Int):=by unfold wrap64;go_num
 have hnb:Value.ownBlock (.slice ad n cap)≠some BB:=jF hv hbx (by decide);have HNB:=hZ hnb;have HBX:=hZ hbx;have HLE:=hZ hle;have HVI:=hZ hvi;have HV:=hZ hv;have HNM:=hZ (sS hv);have HNI:=hZ (sS hvi);have hap:=hZ (jJ hv hvi (by decide));obtain⟨ad',cap',he,had⟩:=gH hv;obtain⟨rfl,rfl⟩:ad'=ad/\cap'=cap:=by injection he with h1 _ h2;exact⟨h1.symm,h2.symm⟩
 clear hvi hv hbx hnb hle he;go_enter func89,ntmps89;go_wp2_with fail;go_loopw [5] (fun i wr=>∃(q:Nat)(ys:List Value),q<=n/\i=.int .i64 q/\Hid (ys.take (q*4)=rep q (mkE (-1-(ls.length:Int))))/\Hid (wr.ownsRow base 86 4 (.slice ad' n cap') n ys)/\Hid (Kv [] (Value.ownBlock (.slice ad' n cap')) 0 w wr/\∀z,z<w.heap.size->Value.ownBlock (.slice ad' n cap')≠some z->wr.heap[z]?=w.heap[z]?)/\Hid (wr.heap[w.heap.size]?=some (.cells #[.string ⟨#[]⟩,.int .i64 0,.int .i64 (-1-(ls.length:Int)),.string ⟨#[]⟩] 86 (0,0)))) (fun i _=>n-(intOf i).toNat);case atStart=>exact⟨0,xs,zZ,rfl,rfl,gO HV.out ((Gr.refl w).alloc _),⟨Kv.gr ((Gr.refl w).alloc _) zZ,fun z hz _=>gF _ _ hz⟩,fY w _⟩
 case round=>
  obtain⟨q,ys,hq,rfl,HY,HO,HK,HM⟩:=hrel;clear c0;have m0:wr.cell? ⟨w.heap.size,0,none⟩=some (.string ⟨#[]⟩):=by rw[cZ HM.out];rfl
  have m1:wr.cell? ⟨w.heap.size,1,none⟩=some (.int .i64 0):=by rw[cZ HM.out];rfl
  have m2:wr.cell? ⟨w.heap.size,2,none⟩=some (.int .i64 (-1-(ls.length:Int))):=by rw[cZ HM.out];rfl
  have m3:wr.cell? ⟨w.heap.size,3,none⟩=some (.string ⟨#[]⟩):=by rw[cZ HM.out];rfl
  by_cases hlt:q<n
  ·obtain⟨g,rfl⟩:=had (by omega);have hgm:g≠w.heap.size:=fun he=>HNM (by rw[he];rfl);have hgm':w.heap.size≠g:=fun he=>hgm he.symm;have hyl:ys.length=n*4:=HO.1;obtain⟨r0,rc0⟩:=gQ HO.out (q*4) (by omega);have rf0:=aK HO.out (q*4);obtain⟨r1,rc1⟩:=gQ HO.out (q*4+1) (by omega);have rf1:=aK HO.out (q*4+1);obtain⟨r2,rc2⟩:=gQ HO.out (q*4+1+1) (by omega);have rf2:=aK HO.out (q*4+1+1);obtain⟨r3,rc3⟩:=gQ HO.out (q*4+1+1+1) (by omega);have rf3:=aK HO.out (q*4+1+1+1);have O1:=hZ (sR HO.out (q*4) (.string ⟨#[]⟩) (.int .i64 0) (.int .i64 (-1-(ls.length:Int))) (.string ⟨#[]⟩));have hlow:=Nat.zero_le g;have K1:=hZ (And.intro (Kv.own (j:=q*4+1+1+1) (Kv.own (j:=q*4+1+1) (Kv.own (j:=q*4+1) (Kv.own (j:=q*4) (HK.1) hlow (.string ⟨#[]⟩)) hlow (.int .i64 0)) hlow (.int .i64 (-1-(ls.length:Int)))) hlow (.string ⟨#[]⟩)) (fun(z:Nat)(hz:z<w.heap.size)(hne:Value.ownBlock (.slice (some ⟨g,0,none⟩) n cap')≠some z)=>(Below.heap_setCell _ ⟨g,q*4+1+1+1,none⟩ (.string ⟨#[]⟩) z (fun(he:z=g)=>hne (by rw[he];rfl))).trans ((Below.heap_setCell _ ⟨g,q*4+1+1,none⟩ (.int .i64 (-1-(ls.length:Int))) z (fun(he:z=g)=>hne (by rw[he];rfl))).trans ((Below.heap_setCell _ ⟨g,q*4+1,none⟩ (.int .i64 0) z (fun(he:z=g)=>hne (by rw[he];rfl))).trans ((Below.heap_setCell _ ⟨g,q*4,none⟩ (.string ⟨#[]⟩) z (fun(he:z=g)=>hne (by rw[he];rfl))).trans (HK.2 z hz hne))))));have Y1:=hZ (Nt ys q _ (by omega) HY.out);have M1:=hZ (iY (iY (iY (iY (HM.out) (p:=⟨g,q*4,none⟩) hgm' (.string ⟨#[]⟩)) (p:=⟨g,q*4+1,none⟩) hgm' (.int .i64 0)) (p:=⟨g,q*4+1+1,none⟩) hgm' (.int .i64 (-1-(ls.length:Int)))) (p:=⟨g,q*4+1+1+1,none⟩) hgm' (.string ⟨#[]⟩));clear HY HO HK HM hlow;go_wp2_with fail;go_roundw;case rel=>exact⟨q+1,_,by omega,by go_num,Y1,O1,K1,M1⟩
   case measure=>simp[intOf];omega
  ·(have hqn:q=n:=by omega);subst hqn;have hys:ys=rep q (mkE (-1-(ls.length:Int))):=by rw[<-HY.out,aV (by rw[HO.1];omega)]
   have K0:Hid (KI 86 77 (Value.ownBlock (.slice ad' q cap')) base w wr (mkE (-1-(ls.length:Int))) q (.slice ad' q cap') (.slice lad ls.length lc) ls []):=⟨HK.1.wide (by simp),aA HLE.out HK.1.size,fun z hz a _=>HK.2 z hz a,by rw[<-hys];exact HO.out,HK.1.owns HVI.out (by simp) hap.out,by simp⟩;clear HY HO HK hys ys m0 m1 m2 m3;go_wp2_with fail;refine oO (c:=24) rfl 25 (by rfl) (RE BB base w.heap.size (Value.ownBlock (.slice ad' q cap')) (-1-(ls.length:Int)) q (.slice ad' q cap') (.slice lad ls.length lc) ls) (EKE BB w.heap.size (.slice ad' q cap')) (fun wr=>KI 86 77 (Value.ownBlock (.slice ad' q cap')) base w wr (mkE (-1-(ls.length:Int))) q (.slice ad' q cap') (.slice lad ls.length lc) ls []/\wr.heap[w.heap.size]?=some (.cells #[.string ⟨#[]⟩,.int .i64 0,.int .i64 (-1-(ls.length:Int)),.string ⟨#[]⟩] 86 (0,0))) (fun i wa wb=>Gk 86 77 (Value.ownBlock (.slice ad' q cap')) base w (mkE (-1-(ls.length:Int))) q (.slice ad' q cap') (.slice lad ls.length lc) ls (i≠22) wa wb) (fun a i x hi h=>EKE.put a i x hi h) (fun a h=>by have:=h.sz;omega) (fun i wa wb h g=>⟨g.ki h.1,g.bl _ _ _ _ h.2 HNM.out HNI.out⟩) (fun i j x wa wb hij h g=>RE.st i j x wa wb hij h g) ?front ?last ?e0 ⟨K0.drew,HM.out⟩;case e0=>exact⟨by simp,rfl,rfl,rfl,rfl⟩
   case front=>
    intro i o a wr ho hi hE hWW hd K hK;obtain⟨hW,hMB⟩:=hWW
    match i,ho,hi,hd,hK with
    |0,ho,_,hd,hK=>obtain rfl:=oZ ho;have e0:=(evn a 0).symm.trans hE.t0;unfold Oper.wp;go_simp;exact hK _ _ (Gk.gr gZ) rfl
    |1,ho,_,hd,hK=>obtain rfl:=oZ ho;have e0:=(evn a 0).symm.trans hE.t0;unfold Oper.wp;go_simp;exact hK _ _ (Gk.gr gZ) rfl
    |5,ho,_,hd,hK=>obtain rfl:=oZ ho;have e0:=(evn a 1).symm.trans hE.t1;unfold Oper.wp;go_simp;exact hK _ _ (Gk.gr gZ) rfl
    |6,ho,_,hd,hK=>obtain rfl:=oZ ho;have e0:=(evn a 1).symm.trans hE.t1;unfold Oper.wp;go_simp;exact hK _ _ (Gk.gr gZ) rfl
    |10,ho,_,hd,hK=>obtain rfl:=oZ ho;have e0:=(evn a 1).symm.trans hE.t1;unfold Oper.wp;go_simp;exact hK _ _ (Gk.gr gZ) rfl
    |15,ho,_,hd,hK=>obtain rfl:=oZ ho;have e0:=(evn a 1).symm.trans hE.t1;unfold Oper.wp;go_simp;exact hK _ _ (Gk.gr gZ) rfl
    |7,ho,_,hd,hK=>obtain rfl:=oZ ho;have e0:=(evn a 4).symm.trans hE.t4;(have n0:wr.cell? ⟨w.heap.size,0,none⟩=some (.string ⟨#[]⟩):=by rw[cZ hMB];rfl);(have n1:wr.cell? ⟨w.heap.size,1,none⟩=some (.int .i64 0):=by rw[cZ hMB];rfl);(have n2:wr.cell? ⟨w.heap.size,2,none⟩=some (.int .i64 (-1-(ls.length:Int))):=by rw[cZ hMB];rfl);(have n3:wr.cell? ⟨w.heap.size,3,none⟩=some (.string ⟨#[]⟩):=by rw[cZ hMB];rfl);unfold Oper.wp;go_simp;exact hK _ _ (Gk.gr gZ) rfl
    |11,ho,_,hd,hK=>obtain rfl:=oZ ho;have e0:=(evn a 4).symm.trans hE.t4;(have n0:wr.cell? ⟨w.heap.size,0,none⟩=some (.string ⟨#[]⟩):=by rw[cZ hMB];rfl);(have n1:wr.cell? ⟨w.heap.size,1,none⟩=some (.int .i64 0):=by rw[cZ hMB];rfl);(have n2:wr.cell? ⟨w.heap.size,2,none⟩=some (.int .i64 (-1-(ls.length:Int))):=by rw[cZ hMB];rfl);(have n3:wr.cell? ⟨w.heap.size,3,none⟩=some (.string ⟨#[]⟩):=by rw[cZ hMB];rfl);unfold Oper.wp;go_simp;exact hK _ _ (Gk.gr gZ) rfl
    |12,ho,_,hd,hK=>obtain rfl:=oZ ho;have e0:=(evn a 4).symm.trans hE.t4;(have n0:wr.cell? ⟨w.heap.size,0,none⟩=some (.string ⟨#[]⟩):=by rw[cZ hMB];rfl);(have n1:wr.cell? ⟨w.heap.size,1,none⟩=some (.int .i64 0):=by rw[cZ hMB];rfl);(have n2:wr.cell? ⟨w.heap.size,2,none⟩=some (.int .i64 (-1-(ls.length:Int))):=by rw[cZ hMB];rfl);(have n3:wr.cell? ⟨w.heap.size,3,none⟩=some (.string ⟨#[]⟩):=by rw[cZ hMB];rfl);unfold Oper.wp;go_simp;exact hK _ _ (Gk.gr gZ) rfl
    |16,ho,_,hd,hK=>obtain rfl:=oZ ho;have e0:=(evn a 4).symm.trans hE.t4;(have n0:wr.cell? ⟨w.heap.size,0,none⟩=some (.string ⟨#[]⟩):=by rw[cZ hMB];rfl);(have n1:wr.cell? ⟨w.heap.size,1,none⟩=some (.int .i64 0):=by rw[cZ hMB];rfl);(have n2:wr.cell? ⟨w.heap.size,2,none⟩=some (.int .i64 (-1-(ls.length:Int))):=by rw[cZ hMB];rfl);(have n3:wr.cell? ⟨w.heap.size,3,none⟩=some (.string ⟨#[]⟩):=by rw[cZ hMB];rfl);unfold Oper.wp;go_simp;exact hK _ _ (Gk.gr gZ) rfl
    |17,ho,_,hd,hK=>obtain rfl:=oZ ho;have e0:=(evn a 4).symm.trans hE.t4;(have n0:wr.cell? ⟨w.heap.size,0,none⟩=some (.string ⟨#[]⟩):=by rw[cZ hMB];rfl);(have n1:wr.cell? ⟨w.heap.size,1,none⟩=some (.int .i64 0):=by rw[cZ hMB];rfl);(have n2:wr.cell? ⟨w.heap.size,2,none⟩=some (.int .i64 (-1-(ls.length:Int))):=by rw[cZ hMB];rfl);(have n3:wr.cell? ⟨w.heap.size,3,none⟩=some (.string ⟨#[]⟩):=by rw[cZ hMB];rfl);unfold Oper.wp;go_simp;exact hK _ _ (Gk.gr gZ) rfl
    |18,ho,_,hd,hK=>obtain rfl:=oZ ho;have e0:=(evn a 4).symm.trans hE.t4;(have n0:wr.cell? ⟨w.heap.size,0,none⟩=some (.string ⟨#[]⟩):=by rw[cZ hMB];rfl);(have n1:wr.cell? ⟨w.heap.size,1,none⟩=some (.int .i64 0):=by rw[cZ hMB];rfl);(have n2:wr.cell? ⟨w.heap.size,2,none⟩=some (.int .i64 (-1-(ls.length:Int))):=by rw[cZ hMB];rfl);(have n3:wr.cell? ⟨w.heap.size,3,none⟩=some (.string ⟨#[]⟩):=by rw[cZ hMB];rfl);unfold Oper.wp;go_simp;exact hK _ _ (Gk.gr gZ) rfl
    |2,ho,_,hd,hK=>obtain rfl:=oZ ho;have e0:a.eval (.tmp 25)=.pointer (some ⟨BB,0,none⟩):=hd ⟨1,.data⟩ (by simp) rfl;rw[evn] at e0;unfold Oper.wp;go_simp;exact hK _ _ (Gk.gr gZ) rfl
    |3,ho,_,hd,hK=>obtain rfl:=oZ ho;have e0:a.eval (.tmp 26)=.pointer (some ⟨BB,0,none⟩):=hd ⟨2,.data⟩ (by simp) rfl;rw[evn] at e0;unfold Oper.wp;go_simp;exact hK _ _ (Gk.gr gZ) rfl
    |23,ho,_,hd,hK=>obtain rfl:=oZ ho;have e0:a.eval (.tmp 24)=.pointer (some ⟨BB,0,none⟩):=hd ⟨0,.data⟩ (by simp) rfl;rw[evn] at e0;unfold Oper.wp;go_simp;exact hK _ _ (Gk.gr gZ) rfl
    |24,ho,_,hd,hK=>obtain rfl:=oZ ho;have e0:a.eval (.tmp 47)=.pointer (some ⟨BB,0,none⟩):=hd ⟨23,.data⟩ (by simp) rfl;rw[evn] at e0;unfold Oper.wp;go_simp;exact hK _ _ (Gk.gr gZ) rfl
    |4,ho,_,hd,hK=>obtain rfl:=oZ ho;have e0:a.eval (.tmp 27)=.pointer (some ⟨BB,1,none⟩):=hd ⟨3,.data⟩ (by simp) rfl;rw[evn] at e0;(have cx:wr.cell? ⟨BB,1,none⟩=some (.slice lad ls.length lc):=by rw[cZ (KI.box hW HBX.out (by decide) HNB.out)];rfl);unfold Oper.wp;go_simp;exact hK _ _ (Gk.gr gZ) rfl
    |8,ho,_,hd,hK=>obtain rfl:=oZ ho;have e7:a.eval (.tmp 31)=.agg #[.string ⟨#[]⟩,.int .i64 0,.int .i64 (-1-(ls.length:Int)),.string ⟨#[]⟩]:=hd ⟨7,.data⟩ (by simp) rfl;rw[evn] at e7;unfold Oper.wp;go_simp;exact hK _ _ (Gk.gr (gZ.alloc _)) (iZ.alloc hW rfl)
    |13,ho,_,hd,hK=>obtain rfl:=oZ ho;have e11:a.eval (.tmp 35)=.agg #[.string ⟨#[]⟩,.int .i64 0,.int .i64 (-1-(ls.length:Int)),.string ⟨#[]⟩]:=hd ⟨11,.data⟩ (by simp) rfl;have e12:a.eval (.tmp 36)=.agg #[.string ⟨#[]⟩,.int .i64 0,.int .i64 (-1-(ls.length:Int)),.string ⟨#[]⟩]:=hd ⟨12,.data⟩ (by simp) rfl;rw[evn] at e11;rw[evn] at e12;unfold Oper.wp;go_simp;exact hK _ _ (Gk.gr (gZ.alloc _)) (iZ.alloc hW rfl)
    |19,ho,_,hd,hK=>obtain rfl:=oZ ho;have e16:a.eval (.tmp 40)=.agg #[.string ⟨#[]⟩,.int .i64 0,.int .i64 (-1-(ls.length:Int)),.string ⟨#[]⟩]:=hd ⟨16,.data⟩ (by simp) rfl;have e17:a.eval (.tmp 41)=.agg #[.string ⟨#[]⟩,.int .i64 0,.int .i64 (-1-(ls.length:Int)),.string ⟨#[]⟩]:=hd ⟨17,.data⟩ (by simp) rfl;have e18:a.eval (.tmp 42)=.agg #[.string ⟨#[]⟩,.int .i64 0,.int .i64 (-1-(ls.length:Int)),.string ⟨#[]⟩]:=hd ⟨18,.data⟩ (by simp) rfl;rw[evn] at e16;rw[evn] at e17;rw[evn] at e18;unfold Oper.wp;go_simp;exact hK _ _ (Gk.gr (gZ.alloc _)) (iZ.alloc hW rfl)
    |9,ho,_,hd,hK=>obtain rfl:=oZ ho;have e0:a.eval (.tmp 30)=.slice ad' q cap':=hd ⟨6,.data⟩ (by simp) rfl;obtain⟨B,e1,_,_,hb⟩:iZ _ _ _ _ _ (a.eval (.tmp 32)) wr:=hd ⟨8,.data⟩ (by simp) rfl;refine iL _ (.tmp 30) (.tmp 32) 78 rfl base 86 i0 _ 48 (mkE (-1-(ls.length:Int))) underlying78 hi' hz0 hz1 hz2 rfl (Dq _) (.slice ad' q cap') q e0 hW.v0 ⟨B,0,none⟩ 1 1 e1 (World.news_of_block hb) (Dr _) (by unfold maxLen;omega) (by omega) hW.le ?_;intro v' x' o' g' r' nb';exact hK _ _ (Gk.app (by decide) rfl hW.v0 o' g' r') ⟨⟨gL o',fun z hz=>(nb' z hz).imp id (fun e=>aA hW.fr.size e)⟩,o'⟩
    |14,ho,_,hd,hK=>obtain rfl:=oZ ho;have e0:a.eval (.tmp 34)=.slice ad' q cap':=hd ⟨10,.data⟩ (by simp) rfl;obtain⟨B,e1,_,_,hb⟩:iZ _ _ _ _ _ (a.eval (.tmp 37)) wr:=hd ⟨13,.data⟩ (by simp) rfl;refine iL _ (.tmp 34) (.tmp 37) 78 rfl base 86 i0 _ 48 (mkE (-1-(ls.length:Int))) underlying78 hi' hz0 hz1 hz2 rfl (Dq _) (.slice ad' q cap') q e0 hW.v0 ⟨B,0,none⟩ 2 2 e1 (World.news_of_block hb) (Dr _) (by unfold maxLen;omega) (by omega) hW.le ?_;intro v' x' o' g' r' nb';exact hK _ _ (Gk.app (by decide) rfl hW.v0 o' g' r') ⟨⟨gL o',fun z hz=>(nb' z hz).imp id (fun e=>aA hW.fr.size e)⟩,o'⟩
    |20,ho,_,hd,hK=>obtain rfl:=oZ ho;have e0:a.eval (.tmp 39)=.slice ad' q cap':=hd ⟨15,.data⟩ (by simp) rfl;obtain⟨B,e1,_,_,hb⟩:iZ _ _ _ _ _ (a.eval (.tmp 43)) wr:=hd ⟨19,.data⟩ (by simp) rfl;refine iL _ (.tmp 39) (.tmp 43) 78 rfl base 86 i0 _ 48 (mkE (-1-(ls.length:Int))) underlying78 hi' hz0 hz1 hz2 rfl (Dq _) (.slice ad' q cap') q e0 hW.v0 ⟨B,0,none⟩ 3 3 e1 (World.news_of_block hb) (Dr _) (by unfold maxLen;omega) (by omega) hW.le ?_;intro v' x' o' g' r' nb';exact hK _ _ (Gk.app (by decide) rfl hW.v0 o' g' r') ⟨⟨gL o',fun z hz=>(nb' z hz).imp id (fun e=>aA hW.fr.size e)⟩,o'⟩
    |21,ho,_,hd,hK=>obtain rfl:=oZ ho;have e0:a.eval (.tmp 29)=.slice ad' q cap':=hd ⟨5,.data⟩ (by simp) rfl;have m1:Mk _ _ _ _ _ _ (a.eval (.tmp 33)) wr:=hd ⟨9,.data⟩ (by simp) rfl;have m2:Mk _ _ _ _ _ _ (a.eval (.tmp 38)) wr:=hd ⟨14,.data⟩ (by simp) rfl;have m3:Mk _ _ _ _ _ _ (a.eval (.tmp 44)) wr:=hd ⟨20,.data⟩ (by simp) rfl;have g4:=Gk.gr (T:=86) (TS:=77) (own:=Value.ownBlock (.slice ad' q cap')) (base:=base) (w:=w) (mk:=mkE (-1-(ls.length:Int))) (n:=q) (v:=.slice ad' q cap') (vi:=.slice lad ls.length lc) (ls:=ls) (s:=21≠22) ((Gr.refl wr).alloc (.cells #[.slice ad' q cap',a.eval (.tmp 33),a.eval (.tmp 38),a.eval (.tmp 44)] 77));have F:qZ _ _ _ _ _ _ _ _ _ _ _:=⟨_,_,_,iZ.alloc (T':=77) (k:=4) (cs:=#[.slice ad' q cap',a.eval (.tmp 33),a.eval (.tmp 38),a.eval (.tmp 44)]) hW rfl,m1.gd g4,m2.gd g4,m3.gd g4⟩;obtain⟨b1,k1,q1,e1⟩:=m1.1.1;obtain⟨b2,k2,q2,e2⟩:=m2.1.1;obtain⟨b3,k3,q3,e3⟩:=m3.1.1;rw[e1,e2,e3] at g4 F;clear m1 m2 m3;rw[evn] at e0 e1 e2 e3;unfold Oper.wp;go_simp;exact hK _ _ g4 F
    |22,ho,_,hd,hK=>obtain rfl:=oZ ho;have e0:a.eval (.tmp 28)=.slice lad ls.length lc:=hd ⟨4,.data⟩ (by simp) rfl;obtain⟨v1,v2,v3,⟨B,e1,_,_,hb⟩,m1,m2,m3⟩:qZ _ _ _ _ _ _ _ _ _ (a.eval (.tmp 45)) wr:=hd ⟨21,.data⟩ (by simp) rfl;obtain⟨b1,k1,q1,rfl⟩:=m1.1.1;obtain⟨b2,k2,q2,rfl⟩:=m2.1.1;obtain⟨b3,k3,q3,rfl⟩:=m3.1.1;refine lS _ (.tmp 28) (.tmp 45) 33 rfl 0 77 i1 _ 1 24 underlying33 hi1 hz01 hz11 hz21 rfl eM (.slice lad ls.length lc) ls.length ls e0 hW.vi ⟨B,0,none⟩ 4 4 [.slice ad' q cap',.slice b1 k1 q1,.slice b2 k2 q2,.slice b3 k3 q3] e1 rfl (World.news_of_block hb) (by simp[Value.oneCell']) (by unfold maxLen;omega) (by omega) zZ (by decide) ?_;intro v' x' o' g' r' nb';have g4:=Gk.app4 (base:=base) (T:=86) (own:=Value.ownBlock (.slice ad' q cap')) (w:=w) (mk:=mkE (-1-(ls.length:Int))) (n:=q) (v:=.slice ad' q cap') (by decide) hW.vi r' g';exact hK _ _ ⟨g4.mks,g4.bl,g4.ki,fun h=>absurd rfl h⟩ ⟨⟨gL o',fun q hq=>nb'.imp (fun e=>e.symm.trans hq) (fun e=>by rw[e] at hq;injection hq with hq;rw[<-hq];exact hW.fr.size)⟩,_,_,_,o',m1.gd g4,m2.gd g4,m3.gd g4⟩
    |k+25,_,hi,_,_=>exact absurd hi (by omega)
   case last=>intro o a wr ho hE hWW hd K hK;obtain⟨hW,_⟩:=hWW;obtain rfl:=oZ ho;have e0:a.eval (.tmp 48)=.pointer (some ⟨BB,1,none⟩):=hd 24 (by omega);have D:sG _ _ _ _ _ _ _ _ _ _ (a.eval (.tmp 46)) wr:=hd 22 (by omega);obtain⟨b4,k4,q4,e4⟩:=D.1.1;rw[e4] at D;rw[evn] at e0 e4;have hbw:=KI.box hW HBX.out (by decide) HNB.out;(have cx:wr.cell? ⟨BB,1,none⟩=some (.slice lad ls.length lc):=by rw[cZ hbw];rfl);have fx:wr.frozen? ⟨BB,1,none⟩=false:=frozen_of_row _ _ _ _ _ hbw;obtain⟨⟨us,KK⟩,KN⟩:=D.kept (j:=1) rfl hW HBX.out (by decide) HNB.out (by decide);have hdf:=hE.df;unfold Oper.wp;go_simp;refine hK _ _ ?_;exact⟨hdf,.tuple #[],by simp[results,results89,go_sem],rfl,_,us,gI (j:=1) hbw _,KK,KN,D.1.2⟩
theorem Tryz.infoWantA:(Tryz.prog.info? 89).map (fun i=>(i.zero,i.size,i.bytes))=some (some (.agg #[.string ⟨#[]⟩,.int .i64 0,.int .i64 0,.int .i64 0,.string ⟨#[]⟩]),5,56):=by kernel_rfl
theorem Tryz.infoSlA:(Tryz.prog.info? 72).map (fun i=>(i.zero,i.size,i.bytes))=some (some (.slice none 0 0),1,24):=by kernel_rfl
theorem Tryz.infoSlR:(Tryz.prog.info? 40).map (fun i=>(i.zero,i.size,i.bytes))=some (some (.slice none 0 0),1,24):=by kernel_rfl
theorem Pf(f:List Wnt)(ad:Option Addr)(cap:Nat)(base LB:Nat)(ve vew vf vw:Value)(Fs:List FE)(w:World)(hne:f≠[])(hlen:f.length<=2513169434845)(hF:FiK base w ad f)(hwf:∀x∈f,Wnt.Wf x)(hn:Fs.length<=1099511627776)(hL:LnF w base LB ve vew vf vw Fs):Calls prog 19 #[.pointer (some ⟨LB,0,none⟩),.slice ad f.length cap] w fun e w'=>∃g vf' vw',e=.returned (.slice (some ⟨g,0,none⟩) f.length (f.length+8))/\Kp tsF base w w'/\w.heap.size<=g /\LnF w' base LB ve vew vf' vw' (Fs++[⟨g,f,ad,cap⟩])/\(∀k,k<w.heap.size->k≠LB->some k≠vf.ownBlock->some k≠vw.ownBlock->w'.heap[k]?=w.heap[k]?)/\(∀q,vf'.ownBlock=some q->vf.ownBlock=some q\/w.heap.size<=q)/\∀q,vw'.ownBlock=some q->vw.ownBlock=some q\/w.heap.size<=q:=by
 obtain⟨i0,hi,hz0,hz1,hz2⟩:=info_parts Tryz.infoWantA;obtain⟨i1,hi1,hz01,hz11,hz21⟩:=info_parts Tryz.infoSlA;obtain⟨i2,hi2,hz02,hz12,hz22⟩:=info_parts Tryz.infoSlR;have HL:Hid (LnF w base LB ve vew vf vw Fs):=hL;have HW:Hid (∀x∈f,Wnt.Wf x):=hwf;have HN:Hid (f≠[]):=hne;have hpos:0<f.length:=by cases f<;>simp_all
 have hp0:((f.length:Int)==0)=false:=by simp;exact hne
 obtain⟨b,off,rfl,hbw,hb,hat⟩:=hF;have HB:Hid (b<base\/sI w b):=hb;have HBW:Hid (b<w.heap.size):=hbw;have HA:Hid (iD w b off f):=hat;clear hL hwf hne hat hb;go_enter func19,ntmps19;go_wp2_with(at_make;refine wpList_make_full _ rfl _ _ 72 rfl w.heap.size 89 i0 _ 5 underlying72 hi hz0 hz1 _ _ _ _ (f.length+8) rfl rfl (by omega) (by omega) ?b2 ?b3 ?b4 ?_);case b2=>rw[hz2];omega
 case b3=>unfold maxLen;omega
 case b4=>exact lZ
 intro w1 hown1 hgrow1;have g1:Gr w w1:=Below.grown (Gr.refl w) hgrow1 lZ (fun b hb=>by cases hb);have HO1:Hid (w1.ownsRow w.heap.size 89 5 (.slice (some ⟨w.heap.size,0,none⟩) (f.length+8) (f.length+8)) (f.length+8) _):=hown1;clear hown1 hgrow1;go_wp2;go_loopw [6] (fun i wr=>∃(q:Nat)(xs:List Value),q<=f.length+8/\i=.int .i64 q/\Gr w wr/\Hid (xs.take (q*5)=iN ((nN f).take q))/\Hid (wr.ownsRow w.heap.size 89 5 (.slice (some ⟨w.heap.size,0,none⟩) (f.length+8) (f.length+8)) (f.length+8) xs)) (fun i _=>f.length+8-(intOf i).toNat);case atStart=>exact⟨0,_,zZ,rfl,g1,rfl,HO1⟩
 case round=>
  obtain⟨q,xs,hq,rfl,g,HX,HO⟩:=hrel;have hxl:xs.length=(f.length+8)*5:=HO.1;by_cases hlt:q<f.length+8
  ·have O1:Hid ((((((wr.setCell ⟨w.heap.size,q*5,none⟩ (.string ⟨#[115,112,97,114,101]⟩)).setCell ⟨w.heap.size,q*5+1,none⟩ (.int .i64 0)).setCell ⟨w.heap.size,q*5+1+1,none⟩ (.int .i64 0)).setCell ⟨w.heap.size,q*5+1+1+1,none⟩ (.int .i64 0)).setCell ⟨w.heap.size,q*5+1+1+1+1,none⟩ (.string ⟨#[]⟩)).ownsRow w.heap.size 89 5 (.slice (some ⟨w.heap.size,0,none⟩) (f.length+8) (f.length+8)) (f.length+8) (set5 xs (q*5) (.string ⟨#[115,112,97,114,101]⟩) (.int .i64 0) (.int .i64 0) (.int .i64 0) (.string ⟨#[]⟩))):=vU HO.out (q*5) _ _ _ _ _;have G1:Gr w (((((wr.setCell ⟨w.heap.size,q*5,none⟩ (.string ⟨#[115,112,97,114,101]⟩)).setCell ⟨w.heap.size,q*5+1,none⟩ (.int .i64 0)).setCell ⟨w.heap.size,q*5+1+1,none⟩ (.int .i64 0)).setCell ⟨w.heap.size,q*5+1+1+1,none⟩ (.int .i64 0)).setCell ⟨w.heap.size,q*5+1+1+1+1,none⟩ (.string ⟨#[]⟩)):=xV lZ g _ _ _ _ _;obtain⟨r0,rc0⟩:=gQ HO.out (q*5) (by omega);have rf0:=aK HO.out (q*5);obtain⟨r1,rc1⟩:=gQ HO.out (q*5+1) (by omega);have rf1:=aK HO.out (q*5+1);obtain⟨r2,rc2⟩:=gQ HO.out (q*5+1+1) (by omega);have rf2:=aK HO.out (q*5+1+1);obtain⟨r3,rc3⟩:=gQ HO.out (q*5+1+1+1) (by omega);have rf3:=aK HO.out (q*5+1+1+1);obtain⟨r4,rc4⟩:=gQ HO.out (q*5+1+1+1+1) (by omega);have rf4:=aK HO.out (q*5+1+1+1+1);by_cases hqf:q<f.length
   ·(have hbne:b≠w.heap.size:=by omega);have hbne':w.heap.size≠b:=by omega
    obtain⟨c1,c2,c3,c4,c5⟩:=(HA.gr g hbw) q hqf;go_wp2_with fail;refine(wT _ _ _ _ _ _).mono ?_;rintro e w2 ⟨rfl,hb2⟩;have O2:Hid (w2.ownsRow w.heap.size 89 5 (.slice (some ⟨w.heap.size,0,none⟩) (f.length+8) (f.length+8)) (f.length+8) (set5 xs (q*5) (.string ⟨#[115,112,97,114,101]⟩) (.int .i64 0) (.int .i64 0) (.int .i64 0) (.string ⟨#[]⟩))):=gO O1.out hb2;have G2:Gr w w2:=Gr.call G1 hb2;clear c1 c2 c3 c4 c5 rc0 rf0 rc1 rf1 rc2 rf2 rc3 rf3 rc4 rf4 hb2 O1 G1;obtain⟨s0,sc0⟩:=gQ O2.out (q*5) (by omega);have sf0:=aK O2.out (q*5);obtain⟨s1,sc1⟩:=gQ O2.out (q*5+1) (by omega);have sf1:=aK O2.out (q*5+1);obtain⟨s2,sc2⟩:=gQ O2.out (q*5+1+1) (by omega);have sf2:=aK O2.out (q*5+1+1);obtain⟨s3,sc3⟩:=gQ O2.out (q*5+1+1+1) (by omega);have sf3:=aK O2.out (q*5+1+1+1);obtain⟨s4,sc4⟩:=gQ O2.out (q*5+1+1+1+1) (by omega);have sf4:=aK O2.out (q*5+1+1+1+1);(have HX2:Hid ((set5 (set5 xs (q*5) (.string ⟨#[115,112,97,114,101]⟩) (.int .i64 0) (.int .i64 0) (.int .i64 0) (.string ⟨#[]⟩)) (q*5) (.string (wat f q).a) (.int .i64 (wat f q).y) (.int .i64 (wat f q).k) (.int .i64 (wat f q).n) (.string (wat f q).s)).take ((q+1)*5)=iN ((nN f).take (q+1))):=by show _=_;rw[show(q+1)*5=q*5+5 by omega,Qu _ _ _ _ _ _ _ (by rw[Rj];omega),rI _ q (by rw[qE];omega),xQ hqf];congr 1;rw[<-HX.out];unfold set5;rw[cX (by omega),cX (by omega),cX (by omega),cX (by omega),cX (by omega)]);have O3:=vU O2.out (q*5) (.string (wat f q).a) (.int .i64 (wat f q).y) (.int .i64 (wat f q).k) (.int .i64 (wat f q).n) (.string (wat f q).s);have G3:=xV lZ G2 (.string (wat f q).a) (.int .i64 (wat f q).y) (.int .i64 (wat f q).k) (.int .i64 (wat f q).n) (.string (wat f q).s) (k:=q*5);have O3':Hid _:=O3;have G3':Hid _:=G3;clear O3 G3;go_wp2_with fail;go_roundw;case rel=>exact⟨q+1,_,by omega,by go_num,G3'.out,HX2,O3'⟩
    case measure=>simp[intOf];omega
   ·(have HX1:Hid ((set5 xs (q*5) (.string ⟨#[115,112,97,114,101]⟩) (.int .i64 0) (.int .i64 0) (.int .i64 0) (.string ⟨#[]⟩)).take ((q+1)*5)=iN ((nN f).take (q+1))):=by show _=_;rw[show(q+1)*5=q*5+5 by omega,Qu _ _ _ _ _ _ _ (by omega),HX.out,rI _ q (by rw[qE];omega),Ca hqf hlt];rfl);go_wp2_with fail;go_roundw;case rel=>exact⟨q+1,_,by omega,by go_num,G1,HX1,O1⟩
    case measure=>simp[intOf];omega
  ·(have hq8:q=f.length+8:=by omega);subst hq8;have HXS:Hid (xs=iN (nN f)):=by show _=_;have h:=HX.out;rw[aV (by omega),aV (by rw[qE];exact lZ)] at h;exact h
   (have HO':Hid (wr.ownsRow w.heap.size 89 5 (.slice (some ⟨w.heap.size,0,none⟩) (f.length+8) (f.length+8)) (f.length+8) (iN (nN f))):=by show World.ownsRow _ _ _ _ _ _ _;rw[<-HXS.out];exact HO.out);have L1:Hid (LnF wr base LB ve vew vf vw Fs):=HL.gr g;(have cf:wr.cell? ⟨LB,2,none⟩=some vf:=by rw[cZ L1.box];rfl);have ff:wr.frozen? ⟨LB,2,none⟩=false:=frozen_of_row _ _ _ _ _ L1.box;have hls:base<=wr.heap.size:=L1.le;have L0:Hid (LnF w base LB ve vew vf vw Fs):=HL;have HA0:Hid (iD w b off f):=HA;clear HX HO HXS HL HA;go_wp2_with(at_builtin;refine wpList_append_own_at _ rfl _ _ 34 rfl base 72 i1 _ 1 24 underlying34 hi1 hz01 hz11 hz21 rfl (by decide) _ _ _ rfl (L1.ownf.alloc _) ⟨wr.heap.size,0,none⟩ 1 1 [.slice (some ⟨w.heap.size,0,none⟩) (f.length+8) (f.length+8)] rfl rfl (cell_one_new _ _ _) ?d2 ?d3 ?d4 ?d5 ?_);case d2=>intro u hu;simp at hu;subst hu;rfl
   case d3=>unfold maxLen;omega
   case d4=>omega
   case d5=>simp;omega
   intro vf' w5 hown5 hgrow5 _ nb5;have VF:Hid (∀q,vf'.ownBlock=some q->vf.ownBlock=some q\/w.heap.size<=q):=fun q hq=>nb5.imp (fun e=>e.symm.trans hq) (fun e=>by rw[e] at hq;injection hq with hq;rw[<-hq];have:=g.size;omega);clear nb5;have KF5:Hid (∀k,k<w.heap.size->some k≠vf.ownBlock->w5.heap[k]?=w.heap[k]?):=fun k hk hn=>(hgrow5.block k (by rw[gX];have:=g.size;omega) hn).trans ((gF _ _ (aF hk g.size)).trans (g.block k hk));(have up:∀k o,wr.heap[k]?=some o->(wr.alloc (.cells #[.slice (some ⟨w.heap.size,0,none⟩) (f.length+8) (f.length+8)] 72)).heap[k]?=some o:=fun k o hk=>by rw[gF _ _ (fZ hk)];exact hk);have X5:Hid (w5.heap[LB]?=some (.cells #[ve,vew,vf,vw] 66 (0,0))):=gU hgrow5 (up _ _ L1.box) (jF L1.ownf L1.box (by decide));have W5:Hid (w5.ownsRow base 40 1 vw Fs.length (Fs.map FE.wc)):=jI (L1.ownw.alloc _) hgrow5 (jJ L1.ownf L1.ownw (by decide));have U5:Hid (∀e∈Fs,w5.heap[e.g]?=some (.cells (iN (nN e.f)).toArray 89 (0,0))):=fun e he=>gU hgrow5 (up _ _ (L1.outs e he).2) (jF L1.ownf (L1.outs e he).2 (by decide));have N5:Hid (w5.heap[w.heap.size]?=some (.cells (iN (nN f)).toArray 89 (0,0))):=gU hgrow5 (up _ _ (uO HO'.out)) (jF L1.ownf (uO HO'.out) (by decide));have G5:Kp tsF base w w5:=Kp.grown ((Kp.gr g L0.le).alloc hls _) (L1.ownf.alloc _) (by decide) hgrow5 (by simp;omega);(have O5:Hid (w5.ownsRow base 72 1 vf' (Fs++[(⟨w.heap.size,f,some ⟨b,off,none⟩,cap⟩:FE)]).length ((Fs++[(⟨w.heap.size,f,some ⟨b,off,none⟩,cap⟩:FE)]).map FE.fc)):=by show World.ownsRow _ _ _ _ _ _ _;rw[aG,aS];exact hown5);have z5:w.heap.size<w5.heap.size:=fZ N5.out;(have x5:w5.cell? ⟨LB,2,none⟩=some vf:=by rw[cZ X5.out];rfl);have y5:w5.frozen? ⟨LB,2,none⟩=false:=frozen_of_row _ _ _ _ _ X5.out;(have x6:w5.cell? ⟨LB,3,none⟩=some vw:=by rw[cZ X5.out];rfl);obtain⟨fa,fm,fk,rfl⟩:=gL hown5;clear hown5 hgrow5 up cf ff;have W6:Hid ((w5.setCell ⟨LB,2,none⟩ (.slice fa fm fk)).ownsRow base 40 1 vw Fs.length (Fs.map FE.wc)):=jX W5.out X5.out (by decide) _;go_wp2_with(at_builtin;refine wpList_append_own_at _ rfl _ _ 64 rfl base 40 i2 _ 1 24 underlying64 hi2 hz02 hz12 hz22 rfl (by decide) _ _ _ rfl (W6.alloc _) ⟨w5.heap.size,0,none⟩ 1 1 [.slice (some ⟨b,off,none⟩) f.length cap] rfl rfl ?k1 ?k2 ?k3 ?k4 ?k5 ?_);case k1=>rw[<-gY w5 ⟨LB,2,none⟩ (.slice fa fm fk)];exact cell_one_new _ _ _
   case k2=>intro u hu;simp at hu;subst hu;rfl
   case k3=>unfold maxLen;omega
   case k4=>omega
   case k5=>rw[gX,gY];have:=G5.size;have:=L0.le;omega
   intro vw' w6 hown6 hgrow6 _ nb6;have VW:Hid (∀q,vw'.ownBlock=some q->vw.ownBlock=some q\/w.heap.size<=q):=fun q hq=>nb6.imp (fun e=>e.symm.trans hq) (fun e=>by rw[e] at hq;injection hq with hq;rw[<-hq];omega);clear nb6;obtain⟨wa,wm,wk,rfl⟩:=gL hown6;have KF6:Hid (∀k,k<w.heap.size->k≠LB->some k≠vf.ownBlock->some k≠vw.ownBlock->(w6.setCell ⟨LB,3,none⟩ (.slice wa wm wk)).heap[k]?=w.heap[k]?):=fun k hk h1 h2 h3=>(Below.heap_setCell w6 ⟨LB,3,none⟩ _ k h1).trans ((hgrow6.block k (by rw[gX,gY];omega) h3).trans ((gF _ _ (by rw[gY];omega)).trans ((Below.heap_setCell w5 ⟨LB,2,none⟩ _ k h1).trans (KF5 k hk h2))));(have up:∀k o,(w5.setCell ⟨LB,2,none⟩ (.slice fa fm fk)).heap[k]?=some o->((w5.setCell ⟨LB,2,none⟩ (.slice fa fm fk)).alloc (.cells #[.slice (some ⟨b,off,none⟩) f.length cap] 40)).heap[k]?=some o:=fun k o hk=>by rw[gF _ _ (fZ hk)];exact hk);have Y5:=gI (j:=2) X5.out (.slice fa fm fk);(have hlbn:∀k cs fr,w5.heap[k]?=some (.cells cs 89 fr)->k≠LB:=fun k cs fr hk he=>by subst he;rw[X5.out] at hk;injection hk with hk;injection hk with _ hk;exact absurd hk (by decide));have X6:Hid (w6.heap[LB]?=some (.cells #[ve,vew,.slice fa fm fk,vw] 66 (0,0))):=gU hgrow6 (up _ _ Y5) (jF W6.out Y5 (by decide));have O6:Hid (w6.ownsRow base 72 1 (.slice fa fm fk) (Fs++[(⟨w.heap.size,f,some ⟨b,off,none⟩,cap⟩:FE)]).length ((Fs++[(⟨w.heap.size,f,some ⟨b,off,none⟩,cap⟩:FE)]).map FE.fc)):=jI ((jX O5.out X5.out (by decide) _).alloc _) hgrow6 (jJ W6.out (jX O5.out X5.out (by decide) _) (by decide));(have keepW:∀(k:Nat)(cs:Array Value),w5.heap[k]?=some (.cells cs 89 (0,0))->w6.heap[k]?=some (.cells cs 89 (0,0)):=fun k cs hk=>by have h1:=iY hk (p:=⟨LB,2,none⟩) (hlbn _ _ _ hk) (.slice fa fm fk);exact gU hgrow6 (up _ _ h1) (jF W6.out h1 (by decide)));(have hlbn6:∀k cs fr,w6.heap[k]?=some (.cells cs 89 fr)->k≠LB:=fun k cs fr hk he=>by subst he;rw[X6.out] at hk;injection hk with hk;injection hk with _ hk;exact absurd hk (by decide));have U6:Hid (∀e∈Fs++[(⟨w.heap.size,f,some ⟨b,off,none⟩,cap⟩:FE)],w6.heap[e.g]?=some (.cells (iN (nN e.f)).toArray 89 (0,0))):=fun e he=>by
    rcases aE.mp he with he|he
    ·exact keepW _ _ (U5 e he)
    ·simp only[aM] at he;subst he;exact keepW _ _ N5.out
   (have W7:Hid (w6.ownsRow base 40 1 (.slice wa wm wk) (Fs++[(⟨w.heap.size,f,some ⟨b,off,none⟩,cap⟩:FE)]).length ((Fs++[(⟨w.heap.size,f,some ⟨b,off,none⟩,cap⟩:FE)]).map FE.wc)):=by show World.ownsRow _ _ _ _ _ _ _;rw[aG,aS];exact hown6);have G6:Kp tsF base w w6:=Kp.grown ((Kp.set (j:=2) G5 X5.out (by decide) L0.lb (.slice fa fm fk)).alloc (by rw[gY];have:=G5.size;have:=L0.le;omega) _) (W6.alloc _) (by decide) hgrow6 (by rw[gX,gY];have:=G5.size;have:=L0.le;omega);have LN:Hid (LnF (w6.setCell ⟨LB,3,none⟩ (.slice wa wm wk)) base LB ve vew (.slice fa fm fk) (.slice wa wm wk) (Fs++[⟨w.heap.size,f,some ⟨b,off,none⟩,cap⟩])):=by
    refine⟨L0.lb,by rw[gY];exact aA L0.le G6.size,gI (j:=3) X6.out _,jX O6.out X6.out (by decide) _,jX W7.out X6.out (by decide) _,?_,?_,?_⟩
    ·intro e he;refine⟨?_,iY (U6 e he) (p:=⟨LB,3,none⟩) (hlbn6 _ _ _ (U6 e he)) _⟩
     ·rcases aE.mp he with he|he
      ·exact(L0.outs e he).1
      ·simp only[aM] at he;subst he;exact L0.le
    ·have GB:Kp tsF base w (w6.setCell ⟨LB,3,none⟩ (.slice wa wm wk)):=Kp.set (j:=3) G6 X6.out (by decide) L0.lb _;intro e he;rcases aE.mp he with he|he
     ·exact⟨(L0.args e he).1,(L0.args e he).2.1.kp GB (by decide),(L0.args e he).2.2⟩
     ·simp only[aM] at he;subst he;exact⟨HN.out,FiK.kp ⟨b,off,rfl,HBW.out,HB.out,HA0.out⟩ GB (by decide),HW.out⟩
    ·rw[aS,dF];refine⟨L0.nodup,by simp,?_⟩;intro x hx y hy;obtain⟨e,he,rfl⟩:=aC.mp hx;simp only[bH,dI,aM] at hy;have:=fZ (L0.outs e he).2;rw[hy];show e.g≠w.heap.size;omega
   have GL:Hid (Kp tsF base w (w6.setCell ⟨LB,3,none⟩ (.slice wa wm wk))):=Kp.set (j:=3) G6 X6.out (by decide) L0.lb _;(have x7:w6.cell? ⟨LB,3,none⟩=some vw:=by rw[cZ X6.out];rfl);have y7:w6.frozen? ⟨LB,3,none⟩=false:=frozen_of_row _ _ _ _ _ X6.out;clear hown6 hgrow6 up Y5 hlbn hlbn6 keepW x5 y5 x6 G5 G6 z5;go_wp2_with fail;go_ret;exact⟨_,_,_,rfl,GL.out,lZ,LN.out,KF6.out,VF.out,VW.out⟩
theorem He(ad:Option Addr)(cap:Nat)(p:Value)(w:World):Calls prog 19 #[p,.slice ad 0 cap] w fun e w'=>e=.returned (.slice none 0 0)/\w'=w:=by go_enter func19,ntmps19;go_wp2;go_ret;exact⟨rfl,rfl⟩
structure Sx(w wr:World)(base LB:Nat)(ve vew vf vw:Value)(Es:List EE)(Fs:List FE)(i k:Nat):Prop where
 le:base<=w.heap.size
 kp:Kp tsS base w wr
 box:wr.heap[LB]?=some (.cells #[ve,vew,vf,vw] 66 (0,0))
 oe:∀j,i<=j->j<Es.length->wr.heap[(ee Es j).g]?=some (.cells (iK (nS (ee Es j).f)).toArray 86 (0,0))
 of:∀j,k<=j->j<Fs.length->wr.heap[(fe Fs j).g]?=some (.cells (iN (nN (fe Fs j).f)).toArray 89 (0,0))
 lowe:∀j,j<Es.length->base<=(ee Es j).g
 lowf:∀j,j<Fs.length->base<=(fe Fs j).g
 nde:(Es.map EE.g).Nodup
 ndf:(Fs.map FE.g).Nodup
 kq:∀x,x<w.heap.size->x≠LB->(∀j,j<Es.length->x≠(ee Es j).g)->(∀j,j<Fs.length->x≠(fe Fs j).g)->wr.heap[x]?=w.heap[x]?
theorem Sx.sz{LB:Nat}{k:Nat}(h:Sx w wr base LB ve vew vf vw Es Fs i k):base<=wr.heap.size:=aA h.le h.kp.size
theorem Sx.gr{LB:Nat}{k:Nat}(h:Sx w wr base LB ve vew vf vw Es Fs i k)(g:Gr wr w'):Sx w w' base LB ve vew vf vw Es Fs i k:=⟨h.le,h.kp.trans (Kp.gr g h.sz),gK g h.box,fun j a b=>gK g (h.oe j a b),fun j a b=>gK g (h.of j a b),h.lowe,h.lowf,h.nde,h.ndf,fun x hx a b c=>(g.block x (aF hx h.kp.size)).trans (h.kq x hx a b c)⟩
theorem Sx.weakF{LB:Nat}{k:Nat}(h:Sx w wr base LB ve vew vf vw Es Fs i k):Sx w wr base LB ve vew vf vw Es Fs i (k+1):=⟨h.le,h.kp,h.box,h.oe,fun j a b=>h.of j (by omega) b,h.lowe,h.lowf,h.nde,h.ndf,h.kq⟩
theorem Sx.weakE{LB:Nat}{k:Nat}(h:Sx w wr base LB ve vew vf vw Es Fs i k):Sx w wr base LB ve vew vf vw Es Fs (i+1) k:=⟨h.le,h.kp,h.box,fun j a b=>h.oe j (by omega) b,h.of,h.lowe,h.lowf,h.nde,h.ndf,h.kq⟩
theorem Eg{k:Nat}{cs cs':Array Value}{t t':TypeId}{fr fr':Nat×Nat}(h:w.heap[i]?=some (.cells cs t fr))(h':w.heap[k]?=some (.cells cs' t' fr'))(hn:t≠t'):i≠k:=by intro he;subst he;rw[h] at h';injection h' with h';injection h' with _ h';exact hn h'
theorem Sx.setF{LB:Nat}{k q:Nat}(h:Sx w wr base LB ve vew vf vw Es Fs i (k+1))(hk:k<Fs.length)(r:∃cs,wr.heap[(fe Fs k).g]?=some (.cells cs 89 (0,0)))(u:Value):Sx w (wr.setCell ⟨(fe Fs k).g,q,none⟩ u) base LB ve vew vf vw Es Fs i (k+1):=by
 obtain⟨cs,hc⟩:=r;exact⟨h.le,h.kp.set hc (by decide) (h.lowf k hk) u,iY h.box (p:=⟨(fe Fs k).g,q,none⟩) (Eg h.box hc (by decide)) u,
  fun j a b=>iY (h.oe j a b) (p:=⟨(fe Fs k).g,q,none⟩) (Eg (h.oe j a b) hc (by decide)) u,fun j a b=>iY (h.of j a b) (p:=⟨(fe Fs k).g,q,none⟩) (aBB h.ndf b hk (by omega)) u,h.lowe,h.lowf,h.nde,h.ndf,fun x hx a b c=>(Below.heap_setCell wr ⟨(fe Fs k).g,q,none⟩ u x (c k hk)).trans (h.kq x hx a b c)⟩
theorem Sx.setE{LB:Nat}{k q:Nat}(h:Sx w wr base LB ve vew vf vw Es Fs (i+1) k)(hk:i<Es.length)(r:∃cs,wr.heap[(ee Es i).g]?=some (.cells cs 86 (0,0)))(u:Value):Sx w (wr.setCell ⟨(ee Es i).g,q,none⟩ u) base LB ve vew vf vw Es Fs (i+1) k:=by
 obtain⟨cs,hc⟩:=r;exact⟨h.le,h.kp.set hc (by decide) (h.lowe i hk) u,iY h.box (p:=⟨(ee Es i).g,q,none⟩) (Eg h.box hc (by decide)) u,
  fun j a b=>iY (h.oe j a b) (p:=⟨(ee Es i).g,q,none⟩) (aBC h.nde b hk (by omega)) u,fun j a b=>iY (h.of j a b) (p:=⟨(ee Es i).g,q,none⟩) (Eg (h.of j a b) hc (by decide)) u,h.lowe,h.lowf,h.nde,h.ndf,fun x hx a b c=>(Below.heap_setCell wr ⟨(ee Es i).g,q,none⟩ u x (b i hk)).trans (h.kq x hx a b c)⟩
def RoF(wr:World)(e:FE)(i:Nat):Prop:=∃cs:Array Value,wr.heap[e.g]?=some (.cells cs 89 (0,0))/\cs.size=(e.f.length+8)*5/\∀j,i*5<=j->cs[j]?=(iN (nN e.f))[j]?
theorem Sx.rowF{LB:Nat}{k:Nat}(h:Sx w wr base LB ve vew vf vw Es Fs i k)(hk:k<Fs.length):RoF wr (fe Fs k) 0:=⟨_,h.of k (Nat.le_refl k) hk,by rw[cS,Ex,qE],fun j _=>by simp⟩
theorem RoF.gr{e:FE}(h:RoF wr e i)(g:Gr wr w'):RoF w' e i:=by obtain⟨cs,h1,h2⟩:=h;exact⟨cs,gK g h1,h2⟩
theorem Sx.setF5{LB:Nat}{k q:Nat}(h:Sx w wr base LB ve vew vf vw Es Fs x (k+1))(hk:k<Fs.length)(r:RoF wr (fe Fs k) q)(a b c d e:Value):Sx w (Si wr (fe Fs k).g i a b c d e) base LB ve vew vf vw Es Fs x (k+1):=by obtain⟨cs,hc,_⟩:=r;have r0:∃cs,wr.heap[(fe Fs k).g]?=some (.cells cs 89 (0,0)):=⟨cs,hc⟩;have r1:=oL (i:=i) r0 a;have r2:=oL (i:=i+1) r1 b;have r3:=oL (i:=i+1+1) r2 c;have r4:=oL (i:=i+1+1+1) r3 d;exact((((h.setF hk r0 a).setF hk r1 b).setF hk r2 c).setF hk r3 d).setF hk r4 e
theorem RoF.set5{x:FE}(h:RoF wr x i)(a b c d e:Value):RoF (Si wr x.g (i*5) a b c d e) x (i+1):=by obtain⟨cs,h1,h2,h3⟩:=h;refine⟨_,gI (gI (gI (gI (gI h1 a) b) c) d) e,by simpa using h2,fun j hj=>?_⟩;rw[<-h3 j (by omega)];simp only[fM];rw[if_neg (by omega),if_neg (by omega),if_neg (by omega),if_neg (by omega),if_neg (by omega)]
theorem RoF.cells{e:FE}(h:RoF wr e i)(hi:i<e.f.length+8):wr.cell? ⟨e.g,i*5,none⟩=some (.string (wat (nN e.f) i).a)/\wr.cell? ⟨e.g,i*5+1,none⟩=some (.int .i64 (wat (nN e.f) i).y) /\wr.cell? ⟨e.g,i*5+1+1,none⟩=some (.int .i64 (wat (nN e.f) i).k)/\wr.cell? ⟨e.g,i*5+1+1+1,none⟩=some (.int .i64 (wat (nN e.f) i).n) /\wr.cell? ⟨e.g,i*5+1+1+1+1,none⟩=some (.string (wat (nN e.f) i).s):=by obtain⟨cs,h1,h2,h3⟩:=h;obtain⟨a1,a2,a3,a4,a5⟩:=sJ (nN e.f) i (by rw[qE];exact hi);rw[cZ h1,cZ h1,cZ h1,cZ h1,cZ h1];rw[h3 _ (by omega),h3 _ (by omega),h3 _ (by omega),h3 _ (by omega),h3 _ (by omega)];exact⟨a1,a2,a3,a4,a5⟩
theorem RoF.frozen{e:FE}(h:RoF wr e i)(j:Nat):wr.frozen? ⟨e.g,j,none⟩=false:=by obtain⟨cs,h1,_⟩:=h;exact frozen_of_row _ _ _ _ _ h1
def Sj(wr:World)(g j:Nat)(a b c d:Value):World:=(((wr.setCell ⟨g,j,none⟩ a).setCell ⟨g,j+1,none⟩ b).setCell ⟨g,j+1+1,none⟩ c).setCell ⟨g,j+1+1+1,none⟩ d
def Uv(w:World)(g:Nat)(a b c d:Value):World:=(((w.setCell ⟨g,0,none⟩ a).setCell ⟨g,1,none⟩ b).setCell ⟨g,2,none⟩ c).setCell ⟨g,3,none⟩ d
theorem Uu{g:Nat}{t:TypeId}{x0 x1 x2 x3:Value}(h:w.heap[g]?=some (.cells #[x0,x1,x2,x3] t (0,0)))(a b c d:Value):(Uv w g a b c d).heap[g]?=some (.cells #[a,b,c,d] t (0,0)):=gI (j:=3) (gI (j:=2) (gI (j:=1) (gI (j:=0) h a) b) c) d
def ov4(wr:World)(g j:Nat)(a b c d:Value):World:=((((wr.setCell ⟨g,j,none⟩ a).setCell ⟨g,j+1,none⟩ b).setCell ⟨g,j+2,none⟩ c).setCell ⟨g,j+3,none⟩ d).drew
theorem Dg(wr:World)(g j:Nat)(a b c d:Value):ov4 wr g j a b c d=(Sj wr g j a b c d).drew:=rfl
def RoE(wr:World)(e:EE)(i:Nat):Prop:=∃cs:Array Value,wr.heap[e.g]?=some (.cells cs 86 (0,0))/\cs.size=(e.f.length+8)*4/\∀j,i*4<=j->cs[j]?=(iK (nS e.f))[j]?
theorem Sx.rowE{LB:Nat}{k:Nat}(h:Sx w wr base LB ve vew vf vw Es Fs i k)(hk:i<Es.length):RoE wr (ee Es i) 0:=⟨_,h.oe i (Nat.le_refl i) hk,by rw[cS,Im,qF],fun j _=>by simp⟩
theorem RoE.gr{e:EE}(h:RoE wr e i)(g:Gr wr w'):RoE w' e i:=by obtain⟨cs,h1,h2⟩:=h;exact⟨cs,gK g h1,h2⟩
theorem Sx.setE4{LB:Nat}{p q:Nat}(h:Sx w wr base LB ve vew vf vw Es Fs (i+1) x)(hk:i<Es.length)(r:RoE wr (ee Es i) q)(a b c d:Value):Sx w (Sj wr (ee Es i).g p a b c d) base LB ve vew vf vw Es Fs (i+1) x:=by obtain⟨cs,hc,_⟩:=r;have r0:∃cs,wr.heap[(ee Es i).g]?=some (.cells cs 86 (0,0)):=⟨cs,hc⟩;have r1:=oL (i:=p) r0 a;have r2:=oL (i:=p+1) r1 b;have r3:=oL (i:=p+1+1) r2 c;exact(((h.setE hk r0 a).setE hk r1 b).setE hk r2 c).setE hk r3 d
theorem RoE.set4{x:EE}(h:RoE wr x i)(a b c d:Value):RoE (Sj wr x.g (i*4) a b c d) x (i+1):=by obtain⟨cs,h1,h2,h3⟩:=h;refine⟨_,gI (gI (gI (gI h1 a) b) c) d,by simpa using h2,fun j hj=>?_⟩;rw[<-h3 j (by omega)];simp only[fM];rw[if_neg (by omega),if_neg (by omega),if_neg (by omega),if_neg (by omega)]
theorem RoE.cells{e:EE}(h:RoE wr e i)(hi:i<e.f.length+8):wr.cell? ⟨e.g,i*4,none⟩=some (.string (aat (nS e.f) i).a)/\wr.cell? ⟨e.g,i*4+1,none⟩=some (.int .i64 (aat (nS e.f) i).k) /\wr.cell? ⟨e.g,i*4+1+1,none⟩=some (.int .i64 (aat (nS e.f) i).n)/\wr.cell? ⟨e.g,i*4+1+1+1,none⟩=some (.string (aat (nS e.f) i).s):=by obtain⟨cs,h1,h2,h3⟩:=h;obtain⟨a1,a2,a3,a4⟩:=tE (nS e.f) i (by rw[qF];exact hi);rw[cZ h1,cZ h1,cZ h1,cZ h1];rw[h3 _ (by omega),h3 _ (by omega),h3 _ (by omega),h3 _ (by omega)];exact⟨a1,a2,a3,a4⟩
theorem RoE.frozen{e:EE}(h:RoE wr e i)(j:Nat):wr.frozen? ⟨e.g,j,none⟩=false:=by obtain⟨cs,h1,_⟩:=h;exact frozen_of_row _ _ _ _ _ h1
end Go.Proofs.YtecnfgikbmcgoabGreat
