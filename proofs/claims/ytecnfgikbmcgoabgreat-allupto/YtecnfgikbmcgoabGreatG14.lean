import Derived.Test.YtecnfgikbmcgoabGreatG13
set_option maxHeartbeats 8000000
set_option maxRecDepth 100000
namespace Go.Proofs.YtecnfgikbmcgoabGreat
open Go.Proofs.Tryz
open Go.RowKit
variable {BB b1 base:Nat}{M:Int}{w:World}
theorem Tryz.infoSlLk:(Tryz.prog.info? 92).map (fun i=>(i.zero,i.size,i.bytes))=some (some (.slice none 0 0),1,24):=by kernel_rfl
theorem Tryz.infoSlKy:(Tryz.prog.info? 95).map (fun i=>(i.zero,i.size,i.bytes))=some (some (.slice none 0 0),1,24):=by kernel_rfl
theorem Kv.own{g j:Nat}{wr:World}(h:Kv [] (some g) base w wr)(hg:base<=g)(u:Value):Kv [] (some g) base w (wr.setCell ⟨g,j,none⟩ u):=h.trans ⟨Below.setCell (Below.refl _ _) (p:=⟨g,j,none⟩) hg u,fun k _ _ _ hk _ ho=>iY hk (p:=⟨g,j,none⟩) (fun(he:k=g)=>ho (by rw[he])) u⟩
theorem sS{T:TypeId}{sz:Nat}{v:Value}{n:Nat}{xs:List Value}(h:w.ownsRow base T sz v n xs):v.ownBlock≠some w.heap.size:=by
 intro he;rcases h.2 with⟨hx,_⟩|⟨g,cap,cur,hx,_,hh,_⟩
 ·rw[hx] at he;simp[Value.ownBlock] at he
 ·rw[hx] at he;have:g=w.heap.size:=by simpa[Value.ownBlock] using he
  have:=fZ hh;omega
theorem Jf{e:TypeId}{size n:Nat}{v:Value}{xs:List Value}(h:w.ownsRow base e size v n xs):Qr w e size (fun _=>True) v n xs:=by
 refine⟨h.1,?_⟩;rcases h.2 with h2|⟨g,cap,cur,hv,_,hh,h1,h2,h3,h4⟩
 ·exact Or.inl h2
 ·exact Or.inr ⟨g,0,cap,cur,hv,trivial,hh,h1,h2,by omega,by rw[bX];exact h4⟩
theorem lS{P:Program}(w:World){o:Oper}{a:Act}{K:Act->World->Prop}{Q:Exit->Act->World->Prop}(s x:Operand)(t:TypeId)(ho:o.op=.call { callee:=.builtin .append,args:=#[s,x],argTypes:=#[t,t] })(base:Nat)(e:TypeId)(i:TypeInfo)(z:Value)(size bytes:Nat)(ht:P.underlying t=some (.slice e))(hi:P.info? e=some i)(hz:i.zero=some z)(hsize:i.size=size)(hby:i.bytes=bytes)(hzs:z.cells.size=size)(hsz:0<size)(v:Value)(n:Nat)(xs:List Value)(hs:a.eval s=v)(hown:w.ownsRow base e size v n xs)(ad:Addr)(m c:Nat)(news:List Value)(hx:a.eval x=.slice (some ad) m c)(hl:news.length=m*size)(hnews:∀j u,news[j]?=some u->w.cell? (ad.add j)=some u)(h1:∀u∈news,u.oneCell'=true)(h63:n+m<=maxLen)(hbytes:(n+m)*bytes<=140737488355328)(hbase:base<=w.heap.size)(hm:0<m)(h:∀v' w',w'.ownsRow base e size v' (n+m) (xs++news)->w.grownBy w' v.ownBlock->w'.ownsRow base e size v n xs->(v'.ownBlock=v.ownBlock\/v'.ownBlock=some w.heap.size)->K (a.put o.dst v') w'):o.wp P a w K Q:=by obtain⟨v',w',hr,h2,h3,h4⟩:=xC (P:=P) w t o.type base e i z size bytes ht hi hz hsize hby hzs hsz v n xs hown ad m c news hl hnews h1 h63 hbytes hbase;obtain⟨v2,w2,hr2,_,_,h5,_⟩:=uJ (P:=P) w t o.type e i z size bytes ht hi hz hsize hby hzs (fun _=>True) v n xs (Jf hown) ad m c news hm hl hnews h1 h63 hbytes;rw[hr] at hr2;injection hr2 with hv hw;subst hv;unfold Oper.wp execOp;simp only[ho,resolve,invoke,builtin,Sem.run_bind,Sem.run_pure,cY,List.map_toArray,bH,dI,hs,hx,hr];exact h v' w' h2 h3 h4 h5
def Wd(xs:List Value)(k:Nat)(a b c:Value):List Value:=((xs.set k a).set (k+1) b).set (k+1+1) c
theorem aAN(xs:List Value)(k:Nat)(a b c:Value)(h:k+3<=xs.length):(Wd xs k a b c).take (k+3)=xs.take k++[a,b,c]:=by unfold Wd;have h1:=take_set xs k a (by omega);have h2:=take_set (xs.set k a) (k+1) b (by simp;omega);have h3:=take_set ((xs.set k a).set (k+1) b) (k+1+1) c (by simp;omega);rw[show k+3=k+1+1+1 by omega,h3,h2,h1];simp
theorem Of{e:TypeId}{g n cap:Nat}{xs:List Value}(h:w.ownsRow base e 3 (.slice (some ⟨g,0,none⟩) n cap) n xs)(k:Nat)(a b c:Value):(((w.setCell ⟨g,k,none⟩ a).setCell ⟨g,k+1,none⟩ b).setCell ⟨g,k+1+1,none⟩ c).ownsRow base e 3 (.slice (some ⟨g,0,none⟩) n cap) n (Wd xs k a b c):=(bI (bI (bI h k a).1 (k+1) b).1 (k+1+1) c).1
def We(xs:List Value)(k:Nat)(a b:Value):List Value:=(xs.set k a).set (k+1) b
theorem aAO(xs:List Value)(k:Nat)(a b:Value)(h:k+2<=xs.length):(We xs k a b).take (k+2)=xs.take k++[a,b]:=by unfold We;have h1:=take_set xs k a (by omega);have h2:=take_set (xs.set k a) (k+1) b (by simp;omega);rw[show k+2=k+1+1 by omega,h2,h1];simp
theorem Og{e:TypeId}{g n cap:Nat}{xs:List Value}(h:w.ownsRow base e 2 (.slice (some ⟨g,0,none⟩) n cap) n xs)(k:Nat)(a b:Value):((w.setCell ⟨g,k,none⟩ a).setCell ⟨g,k+1,none⟩ b).ownsRow base e 2 (.slice (some ⟨g,0,none⟩) n cap) n (We xs k a b):=(bI (bI h k a).1 (k+1) b).1
def mkL(M:Int):List Value:=[.int .i64 0,.int .i64 0,.int .i64 M]
theorem Xa(M:Int):(mkL M).length=3:=rfl
theorem Do(M:Int):0<(mkL M).length:=by rw[Xa];decide
theorem Dp(M:Int):∀u∈mkL M,u.oneCell'=true:=by simp[mkL,Value.oneCell']
theorem Ns(xs:List Value)(q:Nat)(M:Int)(h:q*3+3<=xs.length)(ht:xs.take (q*3)=rep q (mkL M)):(Wd xs (q*3) (.int .i64 0) (.int .i64 0) (.int .i64 M)).take ((q+1)*3)=rep (q+1) (mkL M):=by rw[show(q+1)*3=q*3+3 by omega,aAN _ _ _ _ _ h,ht,mZ,uK];rfl
def RL(BB base b1:Nat)(own:Option Nat)(M:Int)(n:Nat)(v vi:Value)(ls:List Value)(j:Nat)(x:Value)(w:World):Prop:=
 match j with
 |0=>x=.pointer (some ⟨BB,0,none⟩)
 |1=>x=.pointer (some ⟨BB,0,none⟩)
 |2=>x=.pointer (some ⟨BB,0,none⟩)
 |3=>x=.pointer (some ⟨BB,4,none⟩)
 |4=>x=vi
 |5=>x=v
 |6=>x=v
 |7=>x=.agg #[.int .i64 0,.int .i64 0,.int .i64 M]
 |8=>iZ own vi 94 1 #[.int .i64 0,.int .i64 0,.int .i64 M] x w
 |9=>Mk 94 base own b1 (mkL M) (n+1) x w
 |10=>x=v
 |11=>x=.agg #[.int .i64 0,.int .i64 0,.int .i64 M]
 |12=>x=.agg #[.int .i64 0,.int .i64 0,.int .i64 M]
 |13=>iZ own vi 94 2 #[.int .i64 0,.int .i64 0,.int .i64 M,.int .i64 0,.int .i64 0,.int .i64 M] x w
 |14=>Mk 94 base own b1 (mkL M) (n+2) x w
 |15=>x=v
 |16=>x=.agg #[.int .i64 0,.int .i64 0,.int .i64 M]
 |17=>x=.agg #[.int .i64 0,.int .i64 0,.int .i64 M]
 |18=>x=.agg #[.int .i64 0,.int .i64 0,.int .i64 M]
 |19=>iZ own vi 94 3 #[.int .i64 0,.int .i64 0,.int .i64 M,.int .i64 0,.int .i64 0,.int .i64 M,.int .i64 0,.int .i64 0,.int .i64 M] x w
 |20=>Mk 94 base own b1 (mkL M) (n+3) x w
 |21=>qZ 94 92 base b1 (mkL M) n v own vi x w
 |22=>sG 94 92 base own b1 (mkL M) n v vi ls x w
 |23=>x=.pointer (some ⟨BB,0,none⟩)
 |24=>x=.pointer (some ⟨BB,4,none⟩)
 |_=>True
theorem RL.st{own:Option Nat}{n:Nat}{v vi:Value}{ls:List Value}(i j:Nat)(x:Value)(wa wb:World)(hij:i≠j)(h:RL BB base b1 own M n v vi ls j x wa)(g:Gk 94 92 own base w (mkL M) n v vi ls (i≠22) wa wb):RL BB base b1 own M n v vi ls j x wb:=by
 match j,h,hij with
 |0,h,_=>exact h
 |1,h,_=>exact h
 |2,h,_=>exact h
 |3,h,_=>exact h
 |4,h,_=>exact h
 |5,h,_=>exact h
 |6,h,_=>exact h
 |7,h,_=>exact h
 |8,h,_=>exact iZ.gd h g
 |9,h,_=>exact Mk.gd h g
 |10,h,_=>exact h
 |11,h,_=>exact h
 |12,h,_=>exact h
 |13,h,_=>exact iZ.gd h g
 |14,h,_=>exact Mk.gd h g
 |15,h,_=>exact h
 |16,h,_=>exact h
 |17,h,_=>exact h
 |18,h,_=>exact h
 |19,h,_=>exact iZ.gd h g
 |20,h,_=>exact Mk.gd h g
 |21,h,_=>exact qZ.gd h g
 |22,h,hij=>exact sG.gd h g hij
 |23,h,_=>exact h
 |24,h,_=>exact h
 |_+25,_,_=>trivial
structure EKL(BB MB:Nat)(v:Value)(a:Act):Prop where
 sz:48<=a.tmps.size
 df:a.defers=[]
 t0:a.eval (.tmp 0)=.pointer (some ⟨BB,0,none⟩)
 t1:a.eval (.tmp 1)=v
 t4:a.eval (.tmp 4)=.pointer (some ⟨MB,0,none⟩)
theorem EKL.put{MB:Nat}{v:Value}(a:Act)(i:Nat)(x:Value)(hi:i<25)(h:EKL BB MB v a):EKL BB MB v (a.put (some (23+i)) x):=by
 refine⟨by simpa[Act.put] using h.sz,h.df,?_,?_,?_⟩<;>rw[iX (by omega)]
 ·exact h.t0
 ·exact h.t1
 ·exact h.t4
theorem Bd(BB base:Nat)(a0 a1 a2 a3 a5:Value)(ad lad:Option Addr)(n cap lc:Nat)(xs ls:List Value)(w:World)(hn:n<=1099511627776)(hln:ls.length<=1099511627776)(hbx:w.heap[BB]?=some (.cells #[a0,a1,a2,a3,.slice lad ls.length lc,a5] 39 (0,0)))(hle:base<=w.heap.size)(hvi:w.ownsRow 0 92 1 (.slice lad ls.length lc) ls.length ls)(hv:w.ownsRow base 94 3 (.slice ad n cap) n xs):Calls prog 63 #[.pointer (some ⟨BB,0,none⟩),.slice ad n cap] w fun e w'=>e=.returned (.tuple #[])/\∃vi' us,w'.heap[BB]?=some (.cells #[a0,a1,a2,a3,vi',a5] 39 (0,0)) /\Kept 94 92 (Value.ownBlock (.slice ad n cap)) base w w' (mkL (-1-ls.length)) n (.slice ad n cap) vi' ls us/\(∀z,z<w.heap.size->Value.ownBlock (.slice ad n cap)≠some z->Value.ownBlock (.slice lad ls.length lc)≠some z->z≠BB->w'.heap[z]?=w.heap[z]?)/\∀q,vi'.ownBlock=some q->Value.ownBlock (.slice lad ls.length lc)=some q\/w.heap.size<=q:=by
 obtain⟨i0,hi',hz0,hz1,hz2⟩:=info_parts Tryz.infoLink;obtain⟨i1,hi1,hz01,hz11,hz21⟩:=info_parts Tryz.infoSlLk;have c0:w.cell? ⟨BB,4,none⟩=some (.slice lad ls.length lc):=by rw[cZ hbx];rfl
 have hw1:wrap64 (-1-(ls.length:Int))=-1-(ls.length:Int):=by unfold wrap64;go_num
 have hnb:Value.ownBlock (.slice ad n cap)≠some BB:=jF hv hbx (by decide);have HNB:=hZ hnb;have HBX:=hZ hbx;have HLE:=hZ hle;have HVI:=hZ hvi;have HV:=hZ hv;have HNM:=hZ (sS hv);have HNI:=hZ (sS hvi);have hap:=hZ (jJ hv hvi (by decide));obtain⟨ad',cap',he,had⟩:=gH hv;obtain⟨rfl,rfl⟩:ad'=ad/\cap'=cap:=by injection he with h1 _ h2;exact⟨h1.symm,h2.symm⟩
 clear hvi hv hbx hnb hle he;go_enter func63,ntmps63;go_wp2_with fail;go_loopw [5] (fun i wr=>∃(q:Nat)(ys:List Value),q<=n/\i=.int .i64 q/\Hid (ys.take (q*3)=rep q (mkL (-1-(ls.length:Int))))/\Hid (wr.ownsRow base 94 3 (.slice ad' n cap') n ys)/\Hid (Kv [] (Value.ownBlock (.slice ad' n cap')) 0 w wr/\∀z,z<w.heap.size->Value.ownBlock (.slice ad' n cap')≠some z->wr.heap[z]?=w.heap[z]?)/\Hid (wr.heap[w.heap.size]?=some (.cells #[.int .i64 0,.int .i64 0,.int .i64 (-1-(ls.length:Int))] 94 (0,0)))) (fun i _=>n-(intOf i).toNat);case atStart=>exact⟨0,xs,zZ,rfl,rfl,gO HV.out ((Gr.refl w).alloc _),⟨Kv.gr ((Gr.refl w).alloc _) zZ,fun z hz _=>gF _ _ hz⟩,fY w _⟩
 case round=>
  obtain⟨q,ys,hq,rfl,HY,HO,HK,HM⟩:=hrel;clear c0;have m0:wr.cell? ⟨w.heap.size,0,none⟩=some (.int .i64 0):=by rw[cZ HM.out];rfl
  have m1:wr.cell? ⟨w.heap.size,1,none⟩=some (.int .i64 0):=by rw[cZ HM.out];rfl
  have m2:wr.cell? ⟨w.heap.size,2,none⟩=some (.int .i64 (-1-(ls.length:Int))):=by rw[cZ HM.out];rfl
  by_cases hlt:q<n
  ·obtain⟨g,rfl⟩:=had (by omega);have hgm:g≠w.heap.size:=fun he=>HNM (by rw[he];rfl);have hgm':w.heap.size≠g:=fun he=>hgm he.symm;have hyl:ys.length=n*3:=HO.1;obtain⟨r0,rc0⟩:=gQ HO.out (q*3) (by omega);have rf0:=aK HO.out (q*3);obtain⟨r1,rc1⟩:=gQ HO.out (q*3+1) (by omega);have rf1:=aK HO.out (q*3+1);obtain⟨r2,rc2⟩:=gQ HO.out (q*3+1+1) (by omega);have rf2:=aK HO.out (q*3+1+1);have O1:=hZ (Of HO.out (q*3) (.int .i64 0) (.int .i64 0) (.int .i64 (-1-(ls.length:Int))));have hlow:=Nat.zero_le g;have K1:=hZ (And.intro (Kv.own (j:=q*3+1+1) (Kv.own (j:=q*3+1) (Kv.own (j:=q*3) (HK.1) hlow (.int .i64 0)) hlow (.int .i64 0)) hlow (.int .i64 (-1-(ls.length:Int)))) (fun(z:Nat)(hz:z<w.heap.size)(hne:Value.ownBlock (.slice (some ⟨g,0,none⟩) n cap')≠some z)=>(Below.heap_setCell _ ⟨g,q*3+1+1,none⟩ (.int .i64 (-1-(ls.length:Int))) z (fun(he:z=g)=>hne (by rw[he];rfl))).trans ((Below.heap_setCell _ ⟨g,q*3+1,none⟩ (.int .i64 0) z (fun(he:z=g)=>hne (by rw[he];rfl))).trans ((Below.heap_setCell _ ⟨g,q*3,none⟩ (.int .i64 0) z (fun(he:z=g)=>hne (by rw[he];rfl))).trans (HK.2 z hz hne)))));have Y1:=hZ (Ns ys q _ (by omega) HY.out);have M1:=hZ (iY (iY (iY (HM.out) (p:=⟨g,q*3,none⟩) hgm' (.int .i64 0)) (p:=⟨g,q*3+1,none⟩) hgm' (.int .i64 0)) (p:=⟨g,q*3+1+1,none⟩) hgm' (.int .i64 (-1-(ls.length:Int))));clear HY HO HK HM hlow;go_wp2_with fail;go_roundw;case rel=>exact⟨q+1,_,by omega,by go_num,Y1,O1,K1,M1⟩
   case measure=>simp[intOf];omega
  ·(have hqn:q=n:=by omega);subst hqn;have hys:ys=rep q (mkL (-1-(ls.length:Int))):=by rw[<-HY.out,aV (by rw[HO.1];omega)]
   have K0:Hid (KI 94 92 (Value.ownBlock (.slice ad' q cap')) base w wr (mkL (-1-(ls.length:Int))) q (.slice ad' q cap') (.slice lad ls.length lc) ls []):=⟨HK.1.wide (by simp),aA HLE.out HK.1.size,fun z hz a _=>HK.2 z hz a,by rw[<-hys];exact HO.out,HK.1.owns HVI.out (by simp) hap.out,by simp⟩;clear HY HO HK hys ys m0 m1 m2;go_wp2_with fail;refine oO (c:=23) rfl 25 (by rfl) (RL BB base w.heap.size (Value.ownBlock (.slice ad' q cap')) (-1-(ls.length:Int)) q (.slice ad' q cap') (.slice lad ls.length lc) ls) (EKL BB w.heap.size (.slice ad' q cap')) (fun wr=>KI 94 92 (Value.ownBlock (.slice ad' q cap')) base w wr (mkL (-1-(ls.length:Int))) q (.slice ad' q cap') (.slice lad ls.length lc) ls []/\wr.heap[w.heap.size]?=some (.cells #[.int .i64 0,.int .i64 0,.int .i64 (-1-(ls.length:Int))] 94 (0,0))) (fun i wa wb=>Gk 94 92 (Value.ownBlock (.slice ad' q cap')) base w (mkL (-1-(ls.length:Int))) q (.slice ad' q cap') (.slice lad ls.length lc) ls (i≠22) wa wb) (fun a i x hi h=>EKL.put a i x hi h) (fun a h=>by have:=h.sz;omega) (fun i wa wb h g=>⟨g.ki h.1,g.bl _ _ _ _ h.2 HNM.out HNI.out⟩) (fun i j x wa wb hij h g=>RL.st i j x wa wb hij h g) ?front ?last ?e0 ⟨K0.drew,HM.out⟩;case e0=>exact⟨by simp,rfl,rfl,rfl,rfl⟩
   case front=>
    intro i o a wr ho hi hE hWW hd K hK;obtain⟨hW,hMB⟩:=hWW
    match i,ho,hi,hd,hK with
    |0,ho,_,hd,hK=>obtain rfl:=oZ ho;have e0:=(evn a 0).symm.trans hE.t0;unfold Oper.wp;go_simp;exact hK _ _ (Gk.gr gZ) rfl
    |1,ho,_,hd,hK=>obtain rfl:=oZ ho;have e0:=(evn a 0).symm.trans hE.t0;unfold Oper.wp;go_simp;exact hK _ _ (Gk.gr gZ) rfl
    |5,ho,_,hd,hK=>obtain rfl:=oZ ho;have e0:=(evn a 1).symm.trans hE.t1;unfold Oper.wp;go_simp;exact hK _ _ (Gk.gr gZ) rfl
    |6,ho,_,hd,hK=>obtain rfl:=oZ ho;have e0:=(evn a 1).symm.trans hE.t1;unfold Oper.wp;go_simp;exact hK _ _ (Gk.gr gZ) rfl
    |10,ho,_,hd,hK=>obtain rfl:=oZ ho;have e0:=(evn a 1).symm.trans hE.t1;unfold Oper.wp;go_simp;exact hK _ _ (Gk.gr gZ) rfl
    |15,ho,_,hd,hK=>obtain rfl:=oZ ho;have e0:=(evn a 1).symm.trans hE.t1;unfold Oper.wp;go_simp;exact hK _ _ (Gk.gr gZ) rfl
    |7,ho,_,hd,hK=>obtain rfl:=oZ ho;have e0:=(evn a 4).symm.trans hE.t4;(have n0:wr.cell? ⟨w.heap.size,0,none⟩=some (.int .i64 0):=by rw[cZ hMB];rfl);(have n1:wr.cell? ⟨w.heap.size,1,none⟩=some (.int .i64 0):=by rw[cZ hMB];rfl);(have n2:wr.cell? ⟨w.heap.size,2,none⟩=some (.int .i64 (-1-(ls.length:Int))):=by rw[cZ hMB];rfl);unfold Oper.wp;go_simp;exact hK _ _ (Gk.gr gZ) rfl
    |11,ho,_,hd,hK=>obtain rfl:=oZ ho;have e0:=(evn a 4).symm.trans hE.t4;(have n0:wr.cell? ⟨w.heap.size,0,none⟩=some (.int .i64 0):=by rw[cZ hMB];rfl);(have n1:wr.cell? ⟨w.heap.size,1,none⟩=some (.int .i64 0):=by rw[cZ hMB];rfl);(have n2:wr.cell? ⟨w.heap.size,2,none⟩=some (.int .i64 (-1-(ls.length:Int))):=by rw[cZ hMB];rfl);unfold Oper.wp;go_simp;exact hK _ _ (Gk.gr gZ) rfl
    |12,ho,_,hd,hK=>obtain rfl:=oZ ho;have e0:=(evn a 4).symm.trans hE.t4;(have n0:wr.cell? ⟨w.heap.size,0,none⟩=some (.int .i64 0):=by rw[cZ hMB];rfl);(have n1:wr.cell? ⟨w.heap.size,1,none⟩=some (.int .i64 0):=by rw[cZ hMB];rfl);(have n2:wr.cell? ⟨w.heap.size,2,none⟩=some (.int .i64 (-1-(ls.length:Int))):=by rw[cZ hMB];rfl);unfold Oper.wp;go_simp;exact hK _ _ (Gk.gr gZ) rfl
    |16,ho,_,hd,hK=>obtain rfl:=oZ ho;have e0:=(evn a 4).symm.trans hE.t4;(have n0:wr.cell? ⟨w.heap.size,0,none⟩=some (.int .i64 0):=by rw[cZ hMB];rfl);(have n1:wr.cell? ⟨w.heap.size,1,none⟩=some (.int .i64 0):=by rw[cZ hMB];rfl);(have n2:wr.cell? ⟨w.heap.size,2,none⟩=some (.int .i64 (-1-(ls.length:Int))):=by rw[cZ hMB];rfl);unfold Oper.wp;go_simp;exact hK _ _ (Gk.gr gZ) rfl
    |17,ho,_,hd,hK=>obtain rfl:=oZ ho;have e0:=(evn a 4).symm.trans hE.t4;(have n0:wr.cell? ⟨w.heap.size,0,none⟩=some (.int .i64 0):=by rw[cZ hMB];rfl);(have n1:wr.cell? ⟨w.heap.size,1,none⟩=some (.int .i64 0):=by rw[cZ hMB];rfl);(have n2:wr.cell? ⟨w.heap.size,2,none⟩=some (.int .i64 (-1-(ls.length:Int))):=by rw[cZ hMB];rfl);unfold Oper.wp;go_simp;exact hK _ _ (Gk.gr gZ) rfl
    |18,ho,_,hd,hK=>obtain rfl:=oZ ho;have e0:=(evn a 4).symm.trans hE.t4;(have n0:wr.cell? ⟨w.heap.size,0,none⟩=some (.int .i64 0):=by rw[cZ hMB];rfl);(have n1:wr.cell? ⟨w.heap.size,1,none⟩=some (.int .i64 0):=by rw[cZ hMB];rfl);(have n2:wr.cell? ⟨w.heap.size,2,none⟩=some (.int .i64 (-1-(ls.length:Int))):=by rw[cZ hMB];rfl);unfold Oper.wp;go_simp;exact hK _ _ (Gk.gr gZ) rfl
    |2,ho,_,hd,hK=>obtain rfl:=oZ ho;have e0:a.eval (.tmp 24)=.pointer (some ⟨BB,0,none⟩):=hd ⟨1,.data⟩ (by simp) rfl;rw[evn] at e0;unfold Oper.wp;go_simp;exact hK _ _ (Gk.gr gZ) rfl
    |3,ho,_,hd,hK=>obtain rfl:=oZ ho;have e0:a.eval (.tmp 25)=.pointer (some ⟨BB,0,none⟩):=hd ⟨2,.data⟩ (by simp) rfl;rw[evn] at e0;unfold Oper.wp;go_simp;exact hK _ _ (Gk.gr gZ) rfl
    |23,ho,_,hd,hK=>obtain rfl:=oZ ho;have e0:a.eval (.tmp 23)=.pointer (some ⟨BB,0,none⟩):=hd ⟨0,.data⟩ (by simp) rfl;rw[evn] at e0;unfold Oper.wp;go_simp;exact hK _ _ (Gk.gr gZ) rfl
    |24,ho,_,hd,hK=>obtain rfl:=oZ ho;have e0:a.eval (.tmp 46)=.pointer (some ⟨BB,0,none⟩):=hd ⟨23,.data⟩ (by simp) rfl;rw[evn] at e0;unfold Oper.wp;go_simp;exact hK _ _ (Gk.gr gZ) rfl
    |4,ho,_,hd,hK=>obtain rfl:=oZ ho;have e0:a.eval (.tmp 26)=.pointer (some ⟨BB,4,none⟩):=hd ⟨3,.data⟩ (by simp) rfl;rw[evn] at e0;(have cx:wr.cell? ⟨BB,4,none⟩=some (.slice lad ls.length lc):=by rw[cZ (KI.box hW HBX.out (by decide) HNB.out)];rfl);unfold Oper.wp;go_simp;exact hK _ _ (Gk.gr gZ) rfl
    |8,ho,_,hd,hK=>obtain rfl:=oZ ho;have e7:a.eval (.tmp 30)=.agg #[.int .i64 0,.int .i64 0,.int .i64 (-1-(ls.length:Int))]:=hd ⟨7,.data⟩ (by simp) rfl;rw[evn] at e7;unfold Oper.wp;go_simp;exact hK _ _ (Gk.gr (gZ.alloc _)) (iZ.alloc hW rfl)
    |13,ho,_,hd,hK=>obtain rfl:=oZ ho;have e11:a.eval (.tmp 34)=.agg #[.int .i64 0,.int .i64 0,.int .i64 (-1-(ls.length:Int))]:=hd ⟨11,.data⟩ (by simp) rfl;have e12:a.eval (.tmp 35)=.agg #[.int .i64 0,.int .i64 0,.int .i64 (-1-(ls.length:Int))]:=hd ⟨12,.data⟩ (by simp) rfl;rw[evn] at e11;rw[evn] at e12;unfold Oper.wp;go_simp;exact hK _ _ (Gk.gr (gZ.alloc _)) (iZ.alloc hW rfl)
    |19,ho,_,hd,hK=>obtain rfl:=oZ ho;have e16:a.eval (.tmp 39)=.agg #[.int .i64 0,.int .i64 0,.int .i64 (-1-(ls.length:Int))]:=hd ⟨16,.data⟩ (by simp) rfl;have e17:a.eval (.tmp 40)=.agg #[.int .i64 0,.int .i64 0,.int .i64 (-1-(ls.length:Int))]:=hd ⟨17,.data⟩ (by simp) rfl;have e18:a.eval (.tmp 41)=.agg #[.int .i64 0,.int .i64 0,.int .i64 (-1-(ls.length:Int))]:=hd ⟨18,.data⟩ (by simp) rfl;rw[evn] at e16;rw[evn] at e17;rw[evn] at e18;unfold Oper.wp;go_simp;exact hK _ _ (Gk.gr (gZ.alloc _)) (iZ.alloc hW rfl)
    |9,ho,_,hd,hK=>obtain rfl:=oZ ho;have e0:a.eval (.tmp 29)=.slice ad' q cap':=hd ⟨6,.data⟩ (by simp) rfl;obtain⟨B,e1,_,_,hb⟩:iZ _ _ _ _ _ (a.eval (.tmp 31)) wr:=hd ⟨8,.data⟩ (by simp) rfl;refine iL _ (.tmp 29) (.tmp 31) 92 rfl base 94 i0 _ 24 (mkL (-1-(ls.length:Int))) underlying92 hi' hz0 hz1 hz2 rfl (Do _) (.slice ad' q cap') q e0 hW.v0 ⟨B,0,none⟩ 1 1 e1 (World.news_of_block hb) (Dp _) (by unfold maxLen;omega) (by omega) hW.le ?_;intro v' x' o' g' r' nb';exact hK _ _ (Gk.app (by decide) rfl hW.v0 o' g' r') ⟨⟨gL o',fun z hz=>(nb' z hz).imp id (fun e=>aA hW.fr.size e)⟩,o'⟩
    |14,ho,_,hd,hK=>obtain rfl:=oZ ho;have e0:a.eval (.tmp 33)=.slice ad' q cap':=hd ⟨10,.data⟩ (by simp) rfl;obtain⟨B,e1,_,_,hb⟩:iZ _ _ _ _ _ (a.eval (.tmp 36)) wr:=hd ⟨13,.data⟩ (by simp) rfl;refine iL _ (.tmp 33) (.tmp 36) 92 rfl base 94 i0 _ 24 (mkL (-1-(ls.length:Int))) underlying92 hi' hz0 hz1 hz2 rfl (Do _) (.slice ad' q cap') q e0 hW.v0 ⟨B,0,none⟩ 2 2 e1 (World.news_of_block hb) (Dp _) (by unfold maxLen;omega) (by omega) hW.le ?_;intro v' x' o' g' r' nb';exact hK _ _ (Gk.app (by decide) rfl hW.v0 o' g' r') ⟨⟨gL o',fun z hz=>(nb' z hz).imp id (fun e=>aA hW.fr.size e)⟩,o'⟩
    |20,ho,_,hd,hK=>obtain rfl:=oZ ho;have e0:a.eval (.tmp 38)=.slice ad' q cap':=hd ⟨15,.data⟩ (by simp) rfl;obtain⟨B,e1,_,_,hb⟩:iZ _ _ _ _ _ (a.eval (.tmp 42)) wr:=hd ⟨19,.data⟩ (by simp) rfl;refine iL _ (.tmp 38) (.tmp 42) 92 rfl base 94 i0 _ 24 (mkL (-1-(ls.length:Int))) underlying92 hi' hz0 hz1 hz2 rfl (Do _) (.slice ad' q cap') q e0 hW.v0 ⟨B,0,none⟩ 3 3 e1 (World.news_of_block hb) (Dp _) (by unfold maxLen;omega) (by omega) hW.le ?_;intro v' x' o' g' r' nb';exact hK _ _ (Gk.app (by decide) rfl hW.v0 o' g' r') ⟨⟨gL o',fun z hz=>(nb' z hz).imp id (fun e=>aA hW.fr.size e)⟩,o'⟩
    |21,ho,_,hd,hK=>obtain rfl:=oZ ho;have e0:a.eval (.tmp 28)=.slice ad' q cap':=hd ⟨5,.data⟩ (by simp) rfl;have m1:Mk _ _ _ _ _ _ (a.eval (.tmp 32)) wr:=hd ⟨9,.data⟩ (by simp) rfl;have m2:Mk _ _ _ _ _ _ (a.eval (.tmp 37)) wr:=hd ⟨14,.data⟩ (by simp) rfl;have m3:Mk _ _ _ _ _ _ (a.eval (.tmp 43)) wr:=hd ⟨20,.data⟩ (by simp) rfl;have g4:=Gk.gr (T:=94) (TS:=92) (own:=Value.ownBlock (.slice ad' q cap')) (base:=base) (w:=w) (mk:=mkL (-1-(ls.length:Int))) (n:=q) (v:=.slice ad' q cap') (vi:=.slice lad ls.length lc) (ls:=ls) (s:=21≠22) ((Gr.refl wr).alloc (.cells #[.slice ad' q cap',a.eval (.tmp 32),a.eval (.tmp 37),a.eval (.tmp 43)] 92));have F:qZ _ _ _ _ _ _ _ _ _ _ _:=⟨_,_,_,iZ.alloc (T':=92) (k:=4) (cs:=#[.slice ad' q cap',a.eval (.tmp 32),a.eval (.tmp 37),a.eval (.tmp 43)]) hW rfl,m1.gd g4,m2.gd g4,m3.gd g4⟩;obtain⟨b1,k1,q1,e1⟩:=m1.1.1;obtain⟨b2,k2,q2,e2⟩:=m2.1.1;obtain⟨b3,k3,q3,e3⟩:=m3.1.1;rw[e1,e2,e3] at g4 F;clear m1 m2 m3;rw[evn] at e0 e1 e2 e3;unfold Oper.wp;go_simp;exact hK _ _ g4 F
    |22,ho,_,hd,hK=>obtain rfl:=oZ ho;have e0:a.eval (.tmp 27)=.slice lad ls.length lc:=hd ⟨4,.data⟩ (by simp) rfl;obtain⟨v1,v2,v3,⟨B,e1,_,_,hb⟩,m1,m2,m3⟩:qZ _ _ _ _ _ _ _ _ _ (a.eval (.tmp 44)) wr:=hd ⟨21,.data⟩ (by simp) rfl;obtain⟨b1,k1,q1,rfl⟩:=m1.1.1;obtain⟨b2,k2,q2,rfl⟩:=m2.1.1;obtain⟨b3,k3,q3,rfl⟩:=m3.1.1;refine lS _ (.tmp 27) (.tmp 44) 36 rfl 0 92 i1 _ 1 24 underlying36 hi1 hz01 hz11 hz21 rfl eM (.slice lad ls.length lc) ls.length ls e0 hW.vi ⟨B,0,none⟩ 4 4 [.slice ad' q cap',.slice b1 k1 q1,.slice b2 k2 q2,.slice b3 k3 q3] e1 rfl (World.news_of_block hb) (by simp[Value.oneCell']) (by unfold maxLen;omega) (by omega) zZ (by decide) ?_;intro v' x' o' g' r' nb';have g4:=Gk.app4 (base:=base) (T:=94) (own:=Value.ownBlock (.slice ad' q cap')) (w:=w) (mk:=mkL (-1-(ls.length:Int))) (n:=q) (v:=.slice ad' q cap') (by decide) hW.vi r' g';exact hK _ _ ⟨g4.mks,g4.bl,g4.ki,fun h=>absurd rfl h⟩ ⟨⟨gL o',fun q hq=>nb'.imp (fun e=>e.symm.trans hq) (fun e=>by rw[e] at hq;injection hq with hq;rw[<-hq];exact hW.fr.size)⟩,_,_,_,o',m1.gd g4,m2.gd g4,m3.gd g4⟩
    |k+25,_,hi,_,_=>exact absurd hi (by omega)
   case last=>intro o a wr ho hE hWW hd K hK;obtain⟨hW,_⟩:=hWW;obtain rfl:=oZ ho;have e0:a.eval (.tmp 47)=.pointer (some ⟨BB,4,none⟩):=hd 24 (by omega);have D:sG _ _ _ _ _ _ _ _ _ _ (a.eval (.tmp 45)) wr:=hd 22 (by omega);obtain⟨b4,k4,q4,e4⟩:=D.1.1;rw[e4] at D;rw[evn] at e0 e4;have hbw:=KI.box hW HBX.out (by decide) HNB.out;(have cx:wr.cell? ⟨BB,4,none⟩=some (.slice lad ls.length lc):=by rw[cZ hbw];rfl);have fx:wr.frozen? ⟨BB,4,none⟩=false:=frozen_of_row _ _ _ _ _ hbw;obtain⟨⟨us,KK⟩,KN⟩:=D.kept (j:=4) rfl hW HBX.out (by decide) HNB.out (by decide);have hdf:=hE.df;unfold Oper.wp;go_simp;refine hK _ _ ?_;exact⟨hdf,.tuple #[],by simp[results,results63,go_sem],rfl,_,us,gI (j:=4) hbw _,KK,KN,D.1.2⟩
def mkY(M:Int):List Value:=[.int .i64 0,.int .i64 M]
theorem Wx(M:Int):(mkY M).length=2:=rfl
theorem Dk(M:Int):0<(mkY M).length:=by rw[Wx];decide
theorem Dl(M:Int):∀u∈mkY M,u.oneCell'=true:=by simp[mkY,Value.oneCell']
theorem Nr(xs:List Value)(q:Nat)(M:Int)(h:q*2+2<=xs.length)(ht:xs.take (q*2)=rep q (mkY M)):(We xs (q*2) (.int .i64 0) (.int .i64 M)).take ((q+1)*2)=rep (q+1) (mkY M):=by rw[show(q+1)*2=q*2+2 by omega,aAO _ _ _ _ h,ht,mZ,uK];rfl
def RY(BB base b1:Nat)(own:Option Nat)(M:Int)(n:Nat)(v vi:Value)(ls:List Value)(j:Nat)(x:Value)(w:World):Prop:=
 match j with
 |0=>x=.pointer (some ⟨BB,0,none⟩)
 |1=>x=.pointer (some ⟨BB,0,none⟩)
 |2=>x=.pointer (some ⟨BB,0,none⟩)
 |3=>x=.pointer (some ⟨BB,5,none⟩)
 |4=>x=vi
 |5=>x=v
 |6=>x=v
 |7=>x=.agg #[.int .i64 0,.int .i64 M]
 |8=>iZ own vi 97 1 #[.int .i64 0,.int .i64 M] x w
 |9=>Mk 97 base own b1 (mkY M) (n+1) x w
 |10=>x=v
 |11=>x=.agg #[.int .i64 0,.int .i64 M]
 |12=>x=.agg #[.int .i64 0,.int .i64 M]
 |13=>iZ own vi 97 2 #[.int .i64 0,.int .i64 M,.int .i64 0,.int .i64 M] x w
 |14=>Mk 97 base own b1 (mkY M) (n+2) x w
 |15=>x=v
 |16=>x=.agg #[.int .i64 0,.int .i64 M]
 |17=>x=.agg #[.int .i64 0,.int .i64 M]
 |18=>x=.agg #[.int .i64 0,.int .i64 M]
 |19=>iZ own vi 97 3 #[.int .i64 0,.int .i64 M,.int .i64 0,.int .i64 M,.int .i64 0,.int .i64 M] x w
 |20=>Mk 97 base own b1 (mkY M) (n+3) x w
 |21=>qZ 97 95 base b1 (mkY M) n v own vi x w
 |22=>sG 97 95 base own b1 (mkY M) n v vi ls x w
 |23=>x=.pointer (some ⟨BB,0,none⟩)
 |24=>x=.pointer (some ⟨BB,5,none⟩)
 |_=>True
theorem RY.st{own:Option Nat}{n:Nat}{v vi:Value}{ls:List Value}(i j:Nat)(x:Value)(wa wb:World)(hij:i≠j)(h:RY BB base b1 own M n v vi ls j x wa)(g:Gk 97 95 own base w (mkY M) n v vi ls (i≠22) wa wb):RY BB base b1 own M n v vi ls j x wb:=by
 match j,h,hij with
 |0,h,_=>exact h
 |1,h,_=>exact h
 |2,h,_=>exact h
 |3,h,_=>exact h
 |4,h,_=>exact h
 |5,h,_=>exact h
 |6,h,_=>exact h
 |7,h,_=>exact h
 |8,h,_=>exact iZ.gd h g
 |9,h,_=>exact Mk.gd h g
 |10,h,_=>exact h
 |11,h,_=>exact h
 |12,h,_=>exact h
 |13,h,_=>exact iZ.gd h g
 |14,h,_=>exact Mk.gd h g
 |15,h,_=>exact h
 |16,h,_=>exact h
 |17,h,_=>exact h
 |18,h,_=>exact h
 |19,h,_=>exact iZ.gd h g
 |20,h,_=>exact Mk.gd h g
 |21,h,_=>exact qZ.gd h g
 |22,h,hij=>exact sG.gd h g hij
 |23,h,_=>exact h
 |24,h,_=>exact h
 |_+25,_,_=>trivial
structure EKY(BB MB:Nat)(v:Value)(a:Act):Prop where
 sz:48<=a.tmps.size
 df:a.defers=[]
 t0:a.eval (.tmp 0)=.pointer (some ⟨BB,0,none⟩)
 t1:a.eval (.tmp 1)=v
 t4:a.eval (.tmp 4)=.pointer (some ⟨MB,0,none⟩)
theorem EKY.put{MB:Nat}{v:Value}(a:Act)(i:Nat)(x:Value)(hi:i<25)(h:EKY BB MB v a):EKY BB MB v (a.put (some (23+i)) x):=by
 refine⟨by simpa[Act.put] using h.sz,h.df,?_,?_,?_⟩<;>rw[iX (by omega)]
 ·exact h.t0
 ·exact h.t1
 ·exact h.t4
theorem Dv(BB base:Nat)(a0 a1 a2 a3 a4:Value)(ad lad:Option Addr)(n cap lc:Nat)(xs ls:List Value)(w:World)(hn:n<=1099511627776)(hln:ls.length<=1099511627776)(hbx:w.heap[BB]?=some (.cells #[a0,a1,a2,a3,a4,.slice lad ls.length lc] 39 (0,0)))(hle:base<=w.heap.size)(hvi:w.ownsRow 0 95 1 (.slice lad ls.length lc) ls.length ls)(hv:w.ownsRow base 97 2 (.slice ad n cap) n xs):Calls prog 66 #[.pointer (some ⟨BB,0,none⟩),.slice ad n cap] w fun e w'=>e=.returned (.tuple #[])/\∃vi' us,w'.heap[BB]?=some (.cells #[a0,a1,a2,a3,a4,vi'] 39 (0,0)) /\Kept 97 95 (Value.ownBlock (.slice ad n cap)) base w w' (mkY (-1-ls.length)) n (.slice ad n cap) vi' ls us/\(∀z,z<w.heap.size->Value.ownBlock (.slice ad n cap)≠some z->Value.ownBlock (.slice lad ls.length lc)≠some z->z≠BB->w'.heap[z]?=w.heap[z]?)/\∀q,vi'.ownBlock=some q->Value.ownBlock (.slice lad ls.length lc)=some q\/w.heap.size<=q:=by
 obtain⟨i0,hi',hz0,hz1,hz2⟩:=info_parts Tryz.infoKey;obtain⟨i1,hi1,hz01,hz11,hz21⟩:=info_parts Tryz.infoSlKy;have c0:w.cell? ⟨BB,5,none⟩=some (.slice lad ls.length lc):=by rw[cZ hbx];rfl
 have hw1:wrap64 (-1-(ls.length:Int))=-1-(ls.length:Int):=by unfold wrap64;go_num
 have hnb:Value.ownBlock (.slice ad n cap)≠some BB:=jF hv hbx (by decide);have HNB:=hZ hnb;have HBX:=hZ hbx;have HLE:=hZ hle;have HVI:=hZ hvi;have HV:=hZ hv;have HNM:=hZ (sS hv);have HNI:=hZ (sS hvi);have hap:=hZ (jJ hv hvi (by decide));obtain⟨ad',cap',he,had⟩:=gH hv;obtain⟨rfl,rfl⟩:ad'=ad/\cap'=cap:=by injection he with h1 _ h2;exact⟨h1.symm,h2.symm⟩
 clear hvi hv hbx hnb hle he;go_enter func66,ntmps66;go_wp2_with fail;go_loopw [5] (fun i wr=>∃(q:Nat)(ys:List Value),q<=n/\i=.int .i64 q/\Hid (ys.take (q*2)=rep q (mkY (-1-(ls.length:Int))))/\Hid (wr.ownsRow base 97 2 (.slice ad' n cap') n ys)/\Hid (Kv [] (Value.ownBlock (.slice ad' n cap')) 0 w wr/\∀z,z<w.heap.size->Value.ownBlock (.slice ad' n cap')≠some z->wr.heap[z]?=w.heap[z]?)/\Hid (wr.heap[w.heap.size]?=some (.cells #[.int .i64 0,.int .i64 (-1-(ls.length:Int))] 97 (0,0)))) (fun i _=>n-(intOf i).toNat);case atStart=>exact⟨0,xs,zZ,rfl,rfl,gO HV.out ((Gr.refl w).alloc _),⟨Kv.gr ((Gr.refl w).alloc _) zZ,fun z hz _=>gF _ _ hz⟩,fY w _⟩
 case round=>
  obtain⟨q,ys,hq,rfl,HY,HO,HK,HM⟩:=hrel;clear c0;have m0:wr.cell? ⟨w.heap.size,0,none⟩=some (.int .i64 0):=by rw[cZ HM.out];rfl
  have m1:wr.cell? ⟨w.heap.size,1,none⟩=some (.int .i64 (-1-(ls.length:Int))):=by rw[cZ HM.out];rfl
  by_cases hlt:q<n
  ·obtain⟨g,rfl⟩:=had (by omega);have hgm:g≠w.heap.size:=fun he=>HNM (by rw[he];rfl);have hgm':w.heap.size≠g:=fun he=>hgm he.symm;have hyl:ys.length=n*2:=HO.1;obtain⟨r0,rc0⟩:=gQ HO.out (q*2) (by omega);have rf0:=aK HO.out (q*2);obtain⟨r1,rc1⟩:=gQ HO.out (q*2+1) (by omega);have rf1:=aK HO.out (q*2+1);have O1:=hZ (Og HO.out (q*2) (.int .i64 0) (.int .i64 (-1-(ls.length:Int))));have hlow:=Nat.zero_le g;have K1:=hZ (And.intro (Kv.own (j:=q*2+1) (Kv.own (j:=q*2) (HK.1) hlow (.int .i64 0)) hlow (.int .i64 (-1-(ls.length:Int)))) (fun(z:Nat)(hz:z<w.heap.size)(hne:Value.ownBlock (.slice (some ⟨g,0,none⟩) n cap')≠some z)=>(Below.heap_setCell _ ⟨g,q*2+1,none⟩ (.int .i64 (-1-(ls.length:Int))) z (fun(he:z=g)=>hne (by rw[he];rfl))).trans ((Below.heap_setCell _ ⟨g,q*2,none⟩ (.int .i64 0) z (fun(he:z=g)=>hne (by rw[he];rfl))).trans (HK.2 z hz hne))));have Y1:=hZ (Nr ys q _ (by omega) HY.out);have M1:=hZ (iY (iY (HM.out) (p:=⟨g,q*2,none⟩) hgm' (.int .i64 0)) (p:=⟨g,q*2+1,none⟩) hgm' (.int .i64 (-1-(ls.length:Int))));clear HY HO HK HM hlow;go_wp2_with fail;go_roundw;case rel=>exact⟨q+1,_,by omega,by go_num,Y1,O1,K1,M1⟩
   case measure=>simp[intOf];omega
  ·(have hqn:q=n:=by omega);subst hqn;have hys:ys=rep q (mkY (-1-(ls.length:Int))):=by rw[<-HY.out,aV (by rw[HO.1];omega)]
   have K0:Hid (KI 97 95 (Value.ownBlock (.slice ad' q cap')) base w wr (mkY (-1-(ls.length:Int))) q (.slice ad' q cap') (.slice lad ls.length lc) ls []):=⟨HK.1.wide (by simp),aA HLE.out HK.1.size,fun z hz a _=>HK.2 z hz a,by rw[<-hys];exact HO.out,HK.1.owns HVI.out (by simp) hap.out,by simp⟩;clear HY HO HK hys ys m0 m1;go_wp2_with fail;refine oO (c:=23) rfl 25 (by rfl) (RY BB base w.heap.size (Value.ownBlock (.slice ad' q cap')) (-1-(ls.length:Int)) q (.slice ad' q cap') (.slice lad ls.length lc) ls) (EKY BB w.heap.size (.slice ad' q cap')) (fun wr=>KI 97 95 (Value.ownBlock (.slice ad' q cap')) base w wr (mkY (-1-(ls.length:Int))) q (.slice ad' q cap') (.slice lad ls.length lc) ls []/\wr.heap[w.heap.size]?=some (.cells #[.int .i64 0,.int .i64 (-1-(ls.length:Int))] 97 (0,0))) (fun i wa wb=>Gk 97 95 (Value.ownBlock (.slice ad' q cap')) base w (mkY (-1-(ls.length:Int))) q (.slice ad' q cap') (.slice lad ls.length lc) ls (i≠22) wa wb) (fun a i x hi h=>EKY.put a i x hi h) (fun a h=>by have:=h.sz;omega) (fun i wa wb h g=>⟨g.ki h.1,g.bl _ _ _ _ h.2 HNM.out HNI.out⟩) (fun i j x wa wb hij h g=>RY.st i j x wa wb hij h g) ?front ?last ?e0 ⟨K0.drew,HM.out⟩;case e0=>exact⟨by simp,rfl,rfl,rfl,rfl⟩
   case front=>
    intro i o a wr ho hi hE hWW hd K hK;obtain⟨hW,hMB⟩:=hWW
    match i,ho,hi,hd,hK with
    |0,ho,_,hd,hK=>obtain rfl:=oZ ho;have e0:=(evn a 0).symm.trans hE.t0;unfold Oper.wp;go_simp;exact hK _ _ (Gk.gr gZ) rfl
    |1,ho,_,hd,hK=>obtain rfl:=oZ ho;have e0:=(evn a 0).symm.trans hE.t0;unfold Oper.wp;go_simp;exact hK _ _ (Gk.gr gZ) rfl
    |5,ho,_,hd,hK=>obtain rfl:=oZ ho;have e0:=(evn a 1).symm.trans hE.t1;unfold Oper.wp;go_simp;exact hK _ _ (Gk.gr gZ) rfl
    |6,ho,_,hd,hK=>obtain rfl:=oZ ho;have e0:=(evn a 1).symm.trans hE.t1;unfold Oper.wp;go_simp;exact hK _ _ (Gk.gr gZ) rfl
    |10,ho,_,hd,hK=>obtain rfl:=oZ ho;have e0:=(evn a 1).symm.trans hE.t1;unfold Oper.wp;go_simp;exact hK _ _ (Gk.gr gZ) rfl
    |15,ho,_,hd,hK=>obtain rfl:=oZ ho;have e0:=(evn a 1).symm.trans hE.t1;unfold Oper.wp;go_simp;exact hK _ _ (Gk.gr gZ) rfl
    |7,ho,_,hd,hK=>obtain rfl:=oZ ho;have e0:=(evn a 4).symm.trans hE.t4;(have n0:wr.cell? ⟨w.heap.size,0,none⟩=some (.int .i64 0):=by rw[cZ hMB];rfl);(have n1:wr.cell? ⟨w.heap.size,1,none⟩=some (.int .i64 (-1-(ls.length:Int))):=by rw[cZ hMB];rfl);unfold Oper.wp;go_simp;exact hK _ _ (Gk.gr gZ) rfl
    |11,ho,_,hd,hK=>obtain rfl:=oZ ho;have e0:=(evn a 4).symm.trans hE.t4;(have n0:wr.cell? ⟨w.heap.size,0,none⟩=some (.int .i64 0):=by rw[cZ hMB];rfl);(have n1:wr.cell? ⟨w.heap.size,1,none⟩=some (.int .i64 (-1-(ls.length:Int))):=by rw[cZ hMB];rfl);unfold Oper.wp;go_simp;exact hK _ _ (Gk.gr gZ) rfl
    |12,ho,_,hd,hK=>obtain rfl:=oZ ho;have e0:=(evn a 4).symm.trans hE.t4;(have n0:wr.cell? ⟨w.heap.size,0,none⟩=some (.int .i64 0):=by rw[cZ hMB];rfl);(have n1:wr.cell? ⟨w.heap.size,1,none⟩=some (.int .i64 (-1-(ls.length:Int))):=by rw[cZ hMB];rfl);unfold Oper.wp;go_simp;exact hK _ _ (Gk.gr gZ) rfl
    |16,ho,_,hd,hK=>obtain rfl:=oZ ho;have e0:=(evn a 4).symm.trans hE.t4;(have n0:wr.cell? ⟨w.heap.size,0,none⟩=some (.int .i64 0):=by rw[cZ hMB];rfl);(have n1:wr.cell? ⟨w.heap.size,1,none⟩=some (.int .i64 (-1-(ls.length:Int))):=by rw[cZ hMB];rfl);unfold Oper.wp;go_simp;exact hK _ _ (Gk.gr gZ) rfl
    |17,ho,_,hd,hK=>obtain rfl:=oZ ho;have e0:=(evn a 4).symm.trans hE.t4;(have n0:wr.cell? ⟨w.heap.size,0,none⟩=some (.int .i64 0):=by rw[cZ hMB];rfl);(have n1:wr.cell? ⟨w.heap.size,1,none⟩=some (.int .i64 (-1-(ls.length:Int))):=by rw[cZ hMB];rfl);unfold Oper.wp;go_simp;exact hK _ _ (Gk.gr gZ) rfl
    |18,ho,_,hd,hK=>obtain rfl:=oZ ho;have e0:=(evn a 4).symm.trans hE.t4;(have n0:wr.cell? ⟨w.heap.size,0,none⟩=some (.int .i64 0):=by rw[cZ hMB];rfl);(have n1:wr.cell? ⟨w.heap.size,1,none⟩=some (.int .i64 (-1-(ls.length:Int))):=by rw[cZ hMB];rfl);unfold Oper.wp;go_simp;exact hK _ _ (Gk.gr gZ) rfl
    |2,ho,_,hd,hK=>obtain rfl:=oZ ho;have e0:a.eval (.tmp 24)=.pointer (some ⟨BB,0,none⟩):=hd ⟨1,.data⟩ (by simp) rfl;rw[evn] at e0;unfold Oper.wp;go_simp;exact hK _ _ (Gk.gr gZ) rfl
    |3,ho,_,hd,hK=>obtain rfl:=oZ ho;have e0:a.eval (.tmp 25)=.pointer (some ⟨BB,0,none⟩):=hd ⟨2,.data⟩ (by simp) rfl;rw[evn] at e0;unfold Oper.wp;go_simp;exact hK _ _ (Gk.gr gZ) rfl
    |23,ho,_,hd,hK=>obtain rfl:=oZ ho;have e0:a.eval (.tmp 23)=.pointer (some ⟨BB,0,none⟩):=hd ⟨0,.data⟩ (by simp) rfl;rw[evn] at e0;unfold Oper.wp;go_simp;exact hK _ _ (Gk.gr gZ) rfl
    |24,ho,_,hd,hK=>obtain rfl:=oZ ho;have e0:a.eval (.tmp 46)=.pointer (some ⟨BB,0,none⟩):=hd ⟨23,.data⟩ (by simp) rfl;rw[evn] at e0;unfold Oper.wp;go_simp;exact hK _ _ (Gk.gr gZ) rfl
    |4,ho,_,hd,hK=>obtain rfl:=oZ ho;have e0:a.eval (.tmp 26)=.pointer (some ⟨BB,5,none⟩):=hd ⟨3,.data⟩ (by simp) rfl;rw[evn] at e0;(have cx:wr.cell? ⟨BB,5,none⟩=some (.slice lad ls.length lc):=by rw[cZ (KI.box hW HBX.out (by decide) HNB.out)];rfl);unfold Oper.wp;go_simp;exact hK _ _ (Gk.gr gZ) rfl
    |8,ho,_,hd,hK=>obtain rfl:=oZ ho;have e7:a.eval (.tmp 30)=.agg #[.int .i64 0,.int .i64 (-1-(ls.length:Int))]:=hd ⟨7,.data⟩ (by simp) rfl;rw[evn] at e7;unfold Oper.wp;go_simp;exact hK _ _ (Gk.gr (gZ.alloc _)) (iZ.alloc hW rfl)
    |13,ho,_,hd,hK=>obtain rfl:=oZ ho;have e11:a.eval (.tmp 34)=.agg #[.int .i64 0,.int .i64 (-1-(ls.length:Int))]:=hd ⟨11,.data⟩ (by simp) rfl;have e12:a.eval (.tmp 35)=.agg #[.int .i64 0,.int .i64 (-1-(ls.length:Int))]:=hd ⟨12,.data⟩ (by simp) rfl;rw[evn] at e11;rw[evn] at e12;unfold Oper.wp;go_simp;exact hK _ _ (Gk.gr (gZ.alloc _)) (iZ.alloc hW rfl)
    |19,ho,_,hd,hK=>obtain rfl:=oZ ho;have e16:a.eval (.tmp 39)=.agg #[.int .i64 0,.int .i64 (-1-(ls.length:Int))]:=hd ⟨16,.data⟩ (by simp) rfl;have e17:a.eval (.tmp 40)=.agg #[.int .i64 0,.int .i64 (-1-(ls.length:Int))]:=hd ⟨17,.data⟩ (by simp) rfl;have e18:a.eval (.tmp 41)=.agg #[.int .i64 0,.int .i64 (-1-(ls.length:Int))]:=hd ⟨18,.data⟩ (by simp) rfl;rw[evn] at e16;rw[evn] at e17;rw[evn] at e18;unfold Oper.wp;go_simp;exact hK _ _ (Gk.gr (gZ.alloc _)) (iZ.alloc hW rfl)
    |9,ho,_,hd,hK=>obtain rfl:=oZ ho;have e0:a.eval (.tmp 29)=.slice ad' q cap':=hd ⟨6,.data⟩ (by simp) rfl;obtain⟨B,e1,_,_,hb⟩:iZ _ _ _ _ _ (a.eval (.tmp 31)) wr:=hd ⟨8,.data⟩ (by simp) rfl;refine iL _ (.tmp 29) (.tmp 31) 95 rfl base 97 i0 _ 16 (mkY (-1-(ls.length:Int))) underlying95 hi' hz0 hz1 hz2 rfl (Dk _) (.slice ad' q cap') q e0 hW.v0 ⟨B,0,none⟩ 1 1 e1 (World.news_of_block hb) (Dl _) (by unfold maxLen;omega) (by omega) hW.le ?_;intro v' x' o' g' r' nb';exact hK _ _ (Gk.app (by decide) rfl hW.v0 o' g' r') ⟨⟨gL o',fun z hz=>(nb' z hz).imp id (fun e=>aA hW.fr.size e)⟩,o'⟩
    |14,ho,_,hd,hK=>obtain rfl:=oZ ho;have e0:a.eval (.tmp 33)=.slice ad' q cap':=hd ⟨10,.data⟩ (by simp) rfl;obtain⟨B,e1,_,_,hb⟩:iZ _ _ _ _ _ (a.eval (.tmp 36)) wr:=hd ⟨13,.data⟩ (by simp) rfl;refine iL _ (.tmp 33) (.tmp 36) 95 rfl base 97 i0 _ 16 (mkY (-1-(ls.length:Int))) underlying95 hi' hz0 hz1 hz2 rfl (Dk _) (.slice ad' q cap') q e0 hW.v0 ⟨B,0,none⟩ 2 2 e1 (World.news_of_block hb) (Dl _) (by unfold maxLen;omega) (by omega) hW.le ?_;intro v' x' o' g' r' nb';exact hK _ _ (Gk.app (by decide) rfl hW.v0 o' g' r') ⟨⟨gL o',fun z hz=>(nb' z hz).imp id (fun e=>aA hW.fr.size e)⟩,o'⟩
    |20,ho,_,hd,hK=>obtain rfl:=oZ ho;have e0:a.eval (.tmp 38)=.slice ad' q cap':=hd ⟨15,.data⟩ (by simp) rfl;obtain⟨B,e1,_,_,hb⟩:iZ _ _ _ _ _ (a.eval (.tmp 42)) wr:=hd ⟨19,.data⟩ (by simp) rfl;refine iL _ (.tmp 38) (.tmp 42) 95 rfl base 97 i0 _ 16 (mkY (-1-(ls.length:Int))) underlying95 hi' hz0 hz1 hz2 rfl (Dk _) (.slice ad' q cap') q e0 hW.v0 ⟨B,0,none⟩ 3 3 e1 (World.news_of_block hb) (Dl _) (by unfold maxLen;omega) (by omega) hW.le ?_;intro v' x' o' g' r' nb';exact hK _ _ (Gk.app (by decide) rfl hW.v0 o' g' r') ⟨⟨gL o',fun z hz=>(nb' z hz).imp id (fun e=>aA hW.fr.size e)⟩,o'⟩
    |21,ho,_,hd,hK=>obtain rfl:=oZ ho;have e0:a.eval (.tmp 28)=.slice ad' q cap':=hd ⟨5,.data⟩ (by simp) rfl;have m1:Mk _ _ _ _ _ _ (a.eval (.tmp 32)) wr:=hd ⟨9,.data⟩ (by simp) rfl;have m2:Mk _ _ _ _ _ _ (a.eval (.tmp 37)) wr:=hd ⟨14,.data⟩ (by simp) rfl;have m3:Mk _ _ _ _ _ _ (a.eval (.tmp 43)) wr:=hd ⟨20,.data⟩ (by simp) rfl;have g4:=Gk.gr (T:=97) (TS:=95) (own:=Value.ownBlock (.slice ad' q cap')) (base:=base) (w:=w) (mk:=mkY (-1-(ls.length:Int))) (n:=q) (v:=.slice ad' q cap') (vi:=.slice lad ls.length lc) (ls:=ls) (s:=21≠22) ((Gr.refl wr).alloc (.cells #[.slice ad' q cap',a.eval (.tmp 32),a.eval (.tmp 37),a.eval (.tmp 43)] 95));have F:qZ _ _ _ _ _ _ _ _ _ _ _:=⟨_,_,_,iZ.alloc (T':=95) (k:=4) (cs:=#[.slice ad' q cap',a.eval (.tmp 32),a.eval (.tmp 37),a.eval (.tmp 43)]) hW rfl,m1.gd g4,m2.gd g4,m3.gd g4⟩;obtain⟨b1,k1,q1,e1⟩:=m1.1.1;obtain⟨b2,k2,q2,e2⟩:=m2.1.1;obtain⟨b3,k3,q3,e3⟩:=m3.1.1;rw[e1,e2,e3] at g4 F;clear m1 m2 m3;rw[evn] at e0 e1 e2 e3;unfold Oper.wp;go_simp;exact hK _ _ g4 F
    |22,ho,_,hd,hK=>obtain rfl:=oZ ho;have e0:a.eval (.tmp 27)=.slice lad ls.length lc:=hd ⟨4,.data⟩ (by simp) rfl;obtain⟨v1,v2,v3,⟨B,e1,_,_,hb⟩,m1,m2,m3⟩:qZ _ _ _ _ _ _ _ _ _ (a.eval (.tmp 44)) wr:=hd ⟨21,.data⟩ (by simp) rfl;obtain⟨b1,k1,q1,rfl⟩:=m1.1.1;obtain⟨b2,k2,q2,rfl⟩:=m2.1.1;obtain⟨b3,k3,q3,rfl⟩:=m3.1.1;refine lS _ (.tmp 27) (.tmp 44) 37 rfl 0 95 i1 _ 1 24 underlying37 hi1 hz01 hz11 hz21 rfl eM (.slice lad ls.length lc) ls.length ls e0 hW.vi ⟨B,0,none⟩ 4 4 [.slice ad' q cap',.slice b1 k1 q1,.slice b2 k2 q2,.slice b3 k3 q3] e1 rfl (World.news_of_block hb) (by simp[Value.oneCell']) (by unfold maxLen;omega) (by omega) zZ (by decide) ?_;intro v' x' o' g' r' nb';have g4:=Gk.app4 (base:=base) (T:=97) (own:=Value.ownBlock (.slice ad' q cap')) (w:=w) (mk:=mkY (-1-(ls.length:Int))) (n:=q) (v:=.slice ad' q cap') (by decide) hW.vi r' g';exact hK _ _ ⟨g4.mks,g4.bl,g4.ki,fun h=>absurd rfl h⟩ ⟨⟨gL o',fun q hq=>nb'.imp (fun e=>e.symm.trans hq) (fun e=>by rw[e] at hq;injection hq with hq;rw[<-hq];exact hW.fr.size)⟩,_,_,_,o',m1.gd g4,m2.gd g4,m3.gd g4⟩
    |k+25,_,hi,_,_=>exact absurd hi (by omega)
   case last=>intro o a wr ho hE hWW hd K hK;obtain⟨hW,_⟩:=hWW;obtain rfl:=oZ ho;have e0:a.eval (.tmp 47)=.pointer (some ⟨BB,5,none⟩):=hd 24 (by omega);have D:sG _ _ _ _ _ _ _ _ _ _ (a.eval (.tmp 45)) wr:=hd 22 (by omega);obtain⟨b4,k4,q4,e4⟩:=D.1.1;rw[e4] at D;rw[evn] at e0 e4;have hbw:=KI.box hW HBX.out (by decide) HNB.out;(have cx:wr.cell? ⟨BB,5,none⟩=some (.slice lad ls.length lc):=by rw[cZ hbw];rfl);have fx:wr.frozen? ⟨BB,5,none⟩=false:=frozen_of_row _ _ _ _ _ hbw;obtain⟨⟨us,KK⟩,KN⟩:=D.kept (j:=5) rfl hW HBX.out (by decide) HNB.out (by decide);have hdf:=hE.df;unfold Oper.wp;go_simp;refine hK _ _ ?_;exact⟨hdf,.tuple #[],by simp[results,results66,go_sem],rfl,_,us,gI (j:=5) hbw _,KK,KN,D.1.2⟩
end Go.Proofs.YtecnfgikbmcgoabGreat
