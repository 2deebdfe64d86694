import Derived.Test.YtecnfgikbmcgoabGreatG33
set_option maxHeartbeats 8000000
set_option maxRecDepth 100000
namespace Go.Proofs.YtecnfgikbmcgoabGreat
open Go.Proofs.Tryz
open Go.RowKit
variable {A A':Nat->Prop}{C:Rc}{Ks:List Ky}{M b0 id:Nat}{T:Tc}{a0:Act}{cs:List (Pc (List Atr))}{home:Int->Nat}{nxt:Nat->Nat->Int}{rank:Nat->Nat->Nat}{w w0:World}
def aBT(A:Nat->Prop)(C:Rc)(T:Tc)(R:Nat->Rl)(w:World)(cs:List (Pc (List Atr)))(s:Ts)(home:Int->Nat)(e:Ending)(w':World):Prop:=∃k s' cs' R',e=.returned (.int .i64 (k:Nat))/\drn T k (s,cs)=some (s',cs')/\kB T (s',cs')=none/\Rw A C T R' w' cs' s'/\Chm T home cs'/\Fr R R' w w'
def aBG(A:Nat->Prop)(C:Rc)(T:Tc)(R:Nat->Rl)(w:World)(cs:List (Pc (List Atr)))(s:Ts)(nxt:Nat->Nat->Int)(rank:Nat->Nat->Nat)(home:Int->Nat)(Ks:List Ky)(M kk c:Nat)(w':World):Prop:=∃s' cs' R' k',k'<kk/\Gd T nxt rank home Ks s' cs' k' M/\drn T (c+1) (s,cs)=some (s',cs')/\Rw A C T R' w' cs' s'/\Chm T home cs'/\Fr R R' w w'
theorem Sa(A:Nat->Prop)(C:Rc)(T:Tc)(R:Nat->Rl)(w:World)(cs:List (Pc (List Atr)))(s:Ts)(nxt:Nat->Nat->Int)(rank:Nat->Nat->Nat)(home:Int->Nat)(Ks:List Ky)(n M:Nat)(hT:Rw A C T R w cs s)(hE:Chm T home cs)(S:Sh T nxt rank)(G:Gd T nxt rank home Ks s cs n M)(hK:Ks.length<=1048576)(hM:M<549755813888):Calls prog 29 #[.pointer (some ⟨C.TB,0,none⟩)] w fun e w'=>aBT A C T R w cs s home e w':=by
 have HT:=hZ hT;have HE:=hZ hE;have HS:=hZ S;have HG:=hZ G;have hnM:n<549755813888:=Nat.lt_of_le_of_lt G.le hM;have HK:=hZ hK;have HM:=hZ hM;clear hT hE S G hK hM;go_enter func29,ntmps29;go_wp2_with fail;go_loopg [3,4] (2*n+1) (fun k v mo wr=>∃(c:Nat)(s':Ts)(cs':List (Pc (List Atr)))(R':Nat->Rl)(kk:Nat)(fl:Bool),v=.int .i64 c/\mo=.bool fl/\k=2*kk+(if fl=true then 1 else 0)/\c+kk<=n/\Hid (Gd T nxt rank home Ks s' cs' kk M)/\Hid (drn T c (s,cs)=some (s',cs'))/\Hid (Rw A C T R' wr cs' s')/\Hid (Chm T home cs')/\Hid (Fr R R' w wr)/\Hid (fl=false->kB T (s',cs')=none));case atStart=>exact⟨0,s,cs,R,n,true,rfl,rfl,rfl,by omega,HG,rfl,HT,HE,Fr.refl _ _,fun h=>by cases h⟩
 case round=>
  obtain⟨c,s',cs',R',kk,fl,rfl,rfl,rfl,hck,G2,RN,T2,E2,F2,FL⟩:=hrel;cases fl with
  |false=>have HD:=hZ (FL rfl);go_wp2_with fail;go_ret;exact⟨c,s',cs',R',rfl,RN.out,HD.out,T2.out,E2.out,F2.out⟩
  |true=>
   clear FL;(rename World=>wo);obtain⟨ads,Xs,lv,Ls,cv,rc,rt,hnb,rv,hcs⟩:=T2.out;obtain⟨la,lc,rfl⟩:=rt.lshape;have hn64:=rv.n64 (by rw[<-hnb];exact rt.b.nb8);have SM2:=hZ (G2.sm HS.out HK.out HM.out);have HQL:=hZ (rv.qlen SM2.out);have HRT:=hZ rt;have HRV:=hZ rv;(have hcn:c<=n:=by omega);clear rt rv hcs;go_wp2_with fail;go_loopw [3,4,5] (fun v mo i wr'=>∃q:Nat,q<=Ls.length/\i=.int .i64 q/\((v=.int .i64 c/\mo=.bool false/\Hid (Gr wo wr')/\Hid (∀j,j<q->(gE Ls j).q.length=0))\/(v=.int .i64 ((c:Int)+1)/\mo=.bool true/\Hid (aBG A C T R w cs s nxt rank home Ks M kk c wr')))) (fun _ _ i _=>Ls.length-(intOf i).toNat);case atStart=>exact⟨0,zZ,rfl,Or.inl ⟨rfl,rfl,gZ,fun j hj=>absurd hj (cL j)⟩⟩
   case round=>
    obtain⟨q,hqk,rfl,hcase⟩:=hrel;rcases hcase with⟨rfl,rfl,GQ,HZ⟩|⟨rfl,rfl,FD⟩
    ·have t1:=(HRT.gr GQ.out).c1;by_cases hql:q<Ls.length
     ·obtain⟨g,off,rfl,hg,c0,c1,c2,c3⟩:=(HRT.gr GQ.out).l.lk.rowAt.lnk (j:=q) hql;have hq1:=(HQL _ (kG hql)).1;by_cases hz:(gE Ls q).q.length=0
      ·have HZ2:Hid (∀j,j<q+1->(gE Ls j).q.length=0):=fun j hj=>by
        by_cases hjq:j<q
        ·exact HZ j hjq
        ·(obtain rfl:j=q:=by omega);exact hz
       rw[hz] at c2;clear hz hq1 HZ;generalize gE Ls q=l at *;go_wp2_with fail;exact⟨⟨q+1,hql,by simp,Or.inl ⟨rfl,rfl,GQ,HZ2⟩⟩,gD _ _ hql⟩
      ·(have hz1:0<(gE Ls q).q.length:=by omega);have HFS:=hZ (HRV.first hql HZ.out hz1);have e:=xH HRV.lk hql;obtain⟨_,hadj,hf1,hf2,h5,_⟩:=kR e;simp only[Rln.av] at hadj hf1 hf2 h5;obtain⟨m,rs,hqq⟩:∃m rs,s'.q (gE Ls q).fr (gE Ls q).to=m::rs:=by
        cases hq9:s'.q (gE Ls q).fr (gE Ls q).to with
        |nil=>rw[hq9] at h5;have:=congrArg List.length h5;rw[aB] at this;simp at this;rw[this] at hz1;simp at hz1
        |cons m rs=>exact⟨m,rs,rfl⟩
       obtain⟨k',hk',g'⟩:=G2.step HS.out hadj hqq;have ne':=E2.hrs (s'.held (gE Ls q).to) (gE Ls q).fr m;(have hkk:0<((gE Ls q).q.length:Int):=by omega);have ST:=hZ (Lo A C T R' wr.drew cs' s' nxt rank home Ks kk M (gE Ls q).fr (gE Ls q).to m rs (T2.gr GQ.drew) HS.out G2.out E2.out HK.out HM.out hadj hqq);(have DRN:Hid (drn T (c+1) (s,cs)=some (s'.nstep cov T.adj mat (gE Ls q).fr (gE Ls q).to m,hrs mat (s'.held (gE Ls q).to) (gE Ls q).fr m cs')):=by show _=_;rw[drn,RN.out];show kB T (s',cs')=_;unfold kB;rw[HFS.out];simp only[hqq]);have G3:=hZ g';have N3:=hZ ne';have K3:=hZ hk';have FQ:=hZ (F2.trans (Fr.gr GQ.drew));(have hcc:c+1<=4611686018427387904:=by omega);clear e hadj hf1 hf2 h5 hqq g' ne' hk' HFS hz hz1 HZ;generalize gE Ls q=l at *;(have q0:(0:Int)<=(q:Int):=by omega);(have ql:(q:Int)<(Ls.length:Int):=by omega);go_wp2_with fail;refine oP rfl 17 (by rfl) (fun i=>30+i) (fun i _ j _ h=>by omega) (Rdr C.TB g off Ls.length lc q l.fr l.to) (Ef0 _ 30 17) (fun w'=>w'=wr.drew) (fun _ wa wb=>wb=wa) (fun a i x hi h=>Ef0.put (by simp) a i x hi h) (fun a h i hi=>by have:=h.sz (by simp);simp at this;omega) (fun i wa wb h g=>g.trans h) (fun i j x wa wb _ h _=>Rdr.st j x wa wb h) ?front ?last (Ef0.start _ 30 17 (by simp)) rfl;case front=>
        intro i o a' wz ho hi' hE hW hd K hK;have t0:a'.tmps[0]?.getD undef=.pointer (some ⟨C.TB,0,none⟩):=(evn a' 0).symm.trans (hE.at_ (by simp) (by omega));have t5:a'.tmps[5]?.getD undef=.int .i64 q:=(evn a' 5).symm.trans (hE.at_ (by simp) (by omega));(have z1:wz.cell? ⟨C.TB,1,none⟩=some (.slice (some ⟨g,off,none⟩) Ls.length lc):=by rw[hW];exact t1);(have z2:wz.cell? ⟨g,off+q*4,none⟩=some (.int .i64 l.fr):=by rw[hW];exact c0);(have z3:wz.cell? ⟨g,off+q*4+1,none⟩=some (.int .i64 l.to):=by rw[hW];exact c1);clear hE hW
        match i,ho,hi',hd,hK with
        |0,ho,_,hd,hK=>obtain rfl:=oZ ho;clear hd;unfold Oper.wp;go_simp;exact hK _ _ rfl rfl
        |1,ho,_,hd,hK=>obtain rfl:=oZ ho;clear hd;unfold Oper.wp;go_simp;exact hK _ _ rfl rfl
        |2,ho,_,hd,hK=>obtain rfl:=oZ ho;have e0:a'.eval (.tmp 31)=.pointer (some ⟨C.TB,0,none⟩):=hd ⟨1,.data⟩ (by simp) rfl;rw[evn] at e0;clear hd;unfold Oper.wp;go_simp;exact hK _ _ rfl rfl
        |3,ho,_,hd,hK=>obtain rfl:=oZ ho;have e0:a'.eval (.tmp 32)=.pointer (some ⟨C.TB,0,none⟩):=hd ⟨2,.data⟩ (by simp) rfl;rw[evn] at e0;clear hd;unfold Oper.wp;go_simp;exact hK _ _ rfl rfl
        |4,ho,_,hd,hK=>obtain rfl:=oZ ho;have e0:a'.eval (.tmp 33)=.pointer (some ⟨C.TB,1,none⟩):=hd ⟨3,.data⟩ (by simp) rfl;rw[evn] at e0;clear hd;unfold Oper.wp;go_simp;exact hK _ _ rfl rfl
        |5,ho,_,hd,hK=>obtain rfl:=oZ ho;clear hd;unfold Oper.wp;go_simp;exact hK _ _ rfl rfl
        |6,ho,_,hd,hK=>obtain rfl:=oZ ho;have e0:a'.eval (.tmp 34)=.slice (some ⟨g,off,none⟩) Ls.length lc:=hd ⟨4,.data⟩ (by simp) rfl;have e1:a'.eval (.tmp 35)=.int .i64 q:=hd ⟨5,.data⟩ (by simp) rfl;rw[evn] at e0 e1;clear hd;unfold Oper.wp;go_simp;exact hK _ _ rfl rfl
        |7,ho,_,hd,hK=>obtain rfl:=oZ ho;have e0:a'.eval (.tmp 36)=.pointer (some ⟨g,off+q*4,none⟩):=hd ⟨6,.data⟩ (by simp) rfl;rw[evn] at e0;clear hd;unfold Oper.wp;go_simp;exact hK _ _ rfl rfl
        |8,ho,_,hd,hK=>obtain rfl:=oZ ho;have e0:a'.eval (.tmp 37)=.pointer (some ⟨g,off+q*4,none⟩):=hd ⟨7,.data⟩ (by simp) rfl;rw[evn] at e0;clear hd;unfold Oper.wp;go_simp;exact hK _ _ rfl rfl
        |9,ho,_,hd,hK=>obtain rfl:=oZ ho;clear hd;unfold Oper.wp;go_simp;exact hK _ _ rfl rfl
        |10,ho,_,hd,hK=>obtain rfl:=oZ ho;have e0:a'.eval (.tmp 39)=.pointer (some ⟨C.TB,0,none⟩):=hd ⟨9,.data⟩ (by simp) rfl;rw[evn] at e0;clear hd;unfold Oper.wp;go_simp;exact hK _ _ rfl rfl
        |11,ho,_,hd,hK=>obtain rfl:=oZ ho;have e0:a'.eval (.tmp 40)=.pointer (some ⟨C.TB,0,none⟩):=hd ⟨10,.data⟩ (by simp) rfl;rw[evn] at e0;clear hd;unfold Oper.wp;go_simp;exact hK _ _ rfl rfl
        |12,ho,_,hd,hK=>obtain rfl:=oZ ho;have e0:a'.eval (.tmp 41)=.pointer (some ⟨C.TB,1,none⟩):=hd ⟨11,.data⟩ (by simp) rfl;rw[evn] at e0;clear hd;unfold Oper.wp;go_simp;exact hK _ _ rfl rfl
        |13,ho,_,hd,hK=>obtain rfl:=oZ ho;clear hd;unfold Oper.wp;go_simp;exact hK _ _ rfl rfl
        |14,ho,_,hd,hK=>obtain rfl:=oZ ho;have e0:a'.eval (.tmp 42)=.slice (some ⟨g,off,none⟩) Ls.length lc:=hd ⟨12,.data⟩ (by simp) rfl;have e1:a'.eval (.tmp 43)=.int .i64 q:=hd ⟨13,.data⟩ (by simp) rfl;rw[evn] at e0 e1;clear hd;unfold Oper.wp;go_simp;exact hK _ _ rfl rfl
        |15,ho,_,hd,hK=>obtain rfl:=oZ ho;have e0:a'.eval (.tmp 44)=.pointer (some ⟨g,off+q*4,none⟩):=hd ⟨14,.data⟩ (by simp) rfl;rw[evn] at e0;clear hd;unfold Oper.wp;go_simp;exact hK _ _ rfl rfl
        |16,ho,_,hd,hK=>obtain rfl:=oZ ho;have e0:a'.eval (.tmp 45)=.pointer (some ⟨g,off+q*4+1,none⟩):=hd ⟨15,.data⟩ (by simp) rfl;rw[evn] at e0;clear hd;unfold Oper.wp;go_simp;exact hK _ _ rfl rfl
        |k'+17,_,hi',_,_=>exact absurd hi' (by omega)
       case last=>intro o a' wz ho hE hW hd K hK;obtain rfl:=oZ ho;have e0:a'.eval (.tmp 30)=.pointer (some ⟨C.TB,0,none⟩):=hd 0 (by omega);have e8:a'.eval (.tmp 38)=.int .i64 l.fr:=hd 8 (by omega);have e16:a'.eval (.tmp 46)=.int .i64 l.to:=hd 16 (by omega);have hdf:=hE.df;obtain⟨z,hz,hts⟩:=hE.ts;have HTS:=hZ (And.intro hz (And.intro hts hdf));clear hz hts hdf hd hE ho;subst hW;rw[evn] at e0 e8 e16;clear t1 c0 c1 c2 c3;unfold Oper.wp;go_simp;refine ST.mono ?_;rintro e w4 ⟨rfl,R4,z1,z2⟩;have FIN:Hid (aBG A C T R w cs s nxt rank home Ks M kk c w4):=⟨_,_,R4,k',K3.out,G3.out,DRN.out,z1,N3.out,FQ.trans z2⟩;clear ST z1 z2 G3 DRN N3 FQ e0 e8 e16;go_simp;refine hK _ _ ?_;clear hK;obtain⟨hz,hts,hdf⟩:=HTS.out;obtain⟨z0,z1',z2',z3',z4,z5,z6,z7,z8,z9,z10,z11,z12,z13,z14,z15,z16,rfl⟩:=aA6 hz;obtain⟨tm,df⟩:=a';simp only at hts hdf;subst hts hdf;clear hz HTS;simp only[bP,bY,bQ,bX,bD,bM];go_wp2_with fail;exact⟨⟨q+1,hql,by simp,Or.inr ⟨rfl,rfl,FIN⟩⟩,gD _ _ hql⟩
     ·(have hqe:q=Ls.length:=by omega);subst hqe;have HD:=hZ (HRV.still HZ.out cs');have T3:=hZ (T2.gr GQ.out);have F3:=hZ (F2.trans (Fr.gr GQ.out));go_wp2_with fail;go_roundg (2*kk);case measure=>simp
      case rel=>exact⟨c,s',cs',R',kk,false,rfl,rfl,by simp,hck,G2,RN,T3,E2,F3,fun _=>HD.out⟩
    ·(obtain⟨la',n',lc',t1,hn'⟩:∃la n lc,wr.cell? ⟨C.TB,1,none⟩=some (.slice la n lc)/\n<=64:=by obtain⟨_,_,_,_,_,_,_,h4,_⟩:=FD.out;exact h4.c1);by_cases hq2:q<n';all_goals
      go_wp2_with fail;obtain⟨s3,cs3,R3,k3,h1,h2,h3,h4,h5,h6⟩:=FD.out;go_roundg (2*k3+1);case measure=>simp;omega
      case rel=>exact⟨c+1,s3,cs3,R3,k3,true,by simp,rfl,by simp,by omega,h2,h3,h4,h5,h6,fun h=>by cases h⟩
def done(l:Nat->Bool)(i:Nat):Nat->Bool:=fun j=>if j=i then true else l j
def Et(ops:Array Oper)(l:Nat->Bool):Prop:=∀(j:Nat)(o:Oper),ops[j]?=some o->l j=true->∀e∈o.after,Region.binds .any e=true->l e.on=true
def Ip(ops:Array Oper)(l:Nat->Bool)(i:Nat):Prop:=∀o,ops[i]?=some o->∀e∈o.after,Region.binds .any e=true->l e.on=true
section
variable {P:Program}{ops:Array Oper}{Q:Exit->Act->World->Prop}
theorem Nu(hm:P.follows .mixedOrders=true)(last:Nat)(hsz:ops.size=last+1)(dst:Nat->Nat)(hinj:∀i j,i<last->j<last->dst i=dst j->i=j)(hguard:∀(i:Nat)(o:Oper),ops[i]?=some o->o.guard=none)(hdag:∀(i:Nat)(o:Oper),ops[i]?=some o->∀e∈o.after,e.on<i)(hall:∀j,j<last->∃(k:Nat)(o:Oper),j<k/\k<=last/\ops[k]?=some o/\∃e∈o.after,Region.binds .any e=true/\e.on=j)(R:Nat->Value->World->Prop)(E:Act->Prop)(W:(Nat->Bool)->World->Prop)(Good:Nat->World->World->Prop)(hE:∀a i x,i<last->E a->E (a.put (some (dst i)) x))(hsize:∀a,E a->∀i,i<last->dst i<a.tmps.size)(hW:∀i l w w',i<last->l i=false->Et ops l->Ip ops l i->W l w->Good i w w'->W (done l i) w')(hR:∀i j x w w',i≠j->R j x w->Good i w w'->R j x w')(hfront:∀(i:Nat)(o:Oper)(a:Act)(w:World)(l:Nat->Bool),ops[i]?=some o->i<last->l i=false->Et ops l->Ip ops l i->E a->W l w->(∀e∈o.after,Region.binds .any e=true->R e.on (a.eval (.tmp (dst e.on))) w)->∀K:Act->World->Prop,(∀x w',Good i w w'->R i x w'->K (a.put (some (dst i)) x) w')->o.wp P a w K Q)(hlast:∀(o:Oper)(a:Act)(w:World),ops[last]?=some o->E a->(∃l,W l w/\∀j,j<last->l j=true)->(∀j,j<last->R j (a.eval (.tmp (dst j))) w)->∀K:Act->World->Prop,(∀a' w',Q .normal a' w'->K a' w')->o.wp P a w K Q)(h0:E a0)(hw0:W (fun _=>false) w0.drew):(Code.region id ops true).wp P Q a0 w0:=by
 refine wp_region_any hm ?_;have main:∀(fuel:Nat)(listed:Array Bool)(a:Act)(w:World),listed.size=ops.size->listed.toList.count false<=fuel ->((listed.getD last true=false/\E a/\W (fun j=>listed.getD j false) w/\(∀(j:Nat)(o:Oper),ops[j]?=some o->listed.getD j false=true->∀e∈o.after,Region.binds .any e=true->listed.getD e.on false=true)/\∀j,j<last->listed.getD j false=true->R j (a.eval (.tmp (dst j))) w)\/((∀i,i<ops.size->listed.getD i true=true)/\Q .normal a w)) ->wpAny P .any ops Q fuel listed a w:=by
  intro fuel
  induction fuel with
  |zero=>
   intro listed a w hs hc hI;have hz:∀i,i<ops.size->listed.getD i true=true:=by
    intro i hi;have h1:¬false∈listed.toList:=List.count_eq_zero.mp (by omega);(have h2:listed.getD i true=listed[i]'(by omega):=by simp[Array.getD,show i<listed.size by omega]);rw[h2];cases h3:listed[i]'(by omega)
    ·exact absurd (by rw[<-h3];simp) h1
    ·rfl
   rcases hI with⟨h1,_⟩|⟨_,h2⟩
   ·rw[hz last (by omega)] at h1;cases h1
   ·refine⟨?_,h2⟩;rw[fC];intro i hi;obtain⟨h3,o,ho,_⟩:=mem_ready.1 hi;rw[hz i (bL.1 ho).1] at h3;cases h3
  |succ fuel ih=>
   intro listed a w hs hc hI;constructor
   ·intro hr;rcases hI with⟨h1,_⟩|⟨_,h2⟩
    ·exfalso;have hleast:∀n,∀i,i<n->listed.getD i true=true:=by
      intro n
      induction n with
      |zero=>intro i hi;omega
      |succ n ihn=>
       intro i hi;by_cases hin:i<n
       ·exact ihn i hin
       ·(have hin:i=n:=by omega);subst hin;cases hf:listed.getD i true
        ·have hlt:=tS hf;have hm:i∈Region.ready .any ops listed:=mem_ready.2 ⟨hf,ops[i]'(by omega),bU (by omega),fun e he _=>by have hlt':=hdag i _ (bU (by omega)) e he;rw[lV (by omega) false true];exact ihn _ hlt'⟩;rw[hr] at hm;cases hm
        ·rfl
     rw[hleast (last+1) last (by omega)] at h1;cases h1
    ·exact h2
   ·intro i hi;obtain⟨h3,o,ho,hdep⟩:=mem_ready.1 hi;have hil:i<ops.size:=(bL.1 ho).1;rcases hI with⟨h1,hEa,hWw,hcl,hRs⟩|⟨h2,_⟩
    ·unfold wpOp;simp only[ho,Region.wanted,hguard i o ho,if_true];refine Or.inl ?_;have hcnt:(listed.setIfInBounds i true).toList.count false<=fuel:=by
      (have hl:i<listed.toList.length:=by simp;omega);rw[cR,List.count_set hl];have h4:listed.toList[i]=false:=by
       (have h2:listed.getD i true=listed[i]'(by omega):=by simp[Array.getD,show i<listed.size by omega]);rw[<-h3,h2];simp
      rw[h4,if_pos (by rfl),if_neg (by decide)];omega
     by_cases hil':i=last
     ·subst hil';have every:∀(d j:Nat),j+d=i->0<d->listed.getD j false=true:=by
       intro d
       induction d using Nat.strongRecOn with
       |ind d ihd=>
        intro j hj hd;obtain⟨k,ok,hjk,hki,hok,e,he,hb,hon⟩:=hall j (by omega);by_cases hkl:k=i
        ·subst hkl;rw[ho] at hok;injection hok with hok;subst hok;have:=hdep e he hb;rw[hon] at this;exact this
        ·have:=hcl k ok hok (ihd (i-k) (by omega) k (by omega) (by omega)) e he hb;rw[hon] at this;exact this
      refine hlast o a w ho hEa ⟨_,hWw,fun j hj=>every (i-j) j (by omega) (by omega)⟩ (fun j hj=>hRs j hj (every (i-j) j (by omega) (by omega))) _ (fun a' w' hq=>ih _ _ _ (by simpa using hs) hcnt (Or.inr ⟨fun k hk=>?_,hq⟩));by_cases hki:i=k
      ·subst hki;exact lM (by omega) _
      ·rw[hU hki,lV (by omega) true false];exact every (i-k) k (by omega) (by omega)
     ·(have hil2:i<last:=by omega);have hif:listed.getD i false=false:=by rw[lV (by omega) false true];exact h3
      (have hwt:Ip ops (fun j=>listed.getD j false) i:=fun o' ho' e he hb=>by rw[ho] at ho';injection ho' with ho';subst ho';exact hdep e he hb);refine hfront i o a w (fun j=>listed.getD j false) ho hil2 hif hcl hwt hEa hWw (fun e he hb=>hRs _ ?_ (hdep e he hb)) _ (fun x w' hg hr=>?_)
      ·have:=hdag i o ho e he;omega
      ·refine ih _ _ _ (by simpa using hs) hcnt (Or.inl ⟨by rw[hU hil'];exact h1,hE _ _ _ hil2 hEa,?_,?_,fun j hj hl=>?_⟩)
       ·have e:(fun j=>(listed.setIfInBounds i true).getD j false)=done (fun j=>listed.getD j false) i:=by
         funext j;unfold done;by_cases hij:j=i
         ·rw[if_pos hij,hij,lM (by omega)]
         ·rw[if_neg hij,hU (fun e=>hij e.symm)]
        rw[e];exact hW _ _ _ _ hil2 hif hcl hwt hWw hg
       ·intro j oj hoj hl e he hb;by_cases hij:i=j
        ·subst hij;rw[ho] at hoj;injection hoj with hoj;subst hoj;have:=hdag i o ho e he;rw[hU (by omega)];exact hdep e he hb
        ·rw[hU hij] at hl;have:=hcl j oj hoj hl e he hb;by_cases hie:i=e.on
         ·rw[<-hie] at this;rw[lV (by omega) true false,this] at h3;cases h3
         ·rw[hU hie];exact this
       by_cases hij:i=j
       ·subst hij;rw[pT (hsize _ hEa _ hil2)];exact hr
       ·rw[hU hij] at hl;rw[iX (fun he=>hij (hinj _ _ hil2 hj he))];exact hR _ _ _ _ _ hij (hRs j hj hl) hg
    ·rw[h2 i hil] at h3;cases h3
 have e0:∀n:Nat,(fun m=>(Array.replicate n false).getD m false)=fun _=>false:=fun n=>by funext m;by_cases hh:m<n<;>simp[Array.getD,hh]
 refine main _ _ _ _ (by simp) ?_ (Or.inl ⟨?_,h0,(e0 ops.size).symm▸hw0,fun j o _ hl=>?_,fun j hj hl=>?_⟩)
 ·simp
 ·simp[Array.getD,hsz]
 ·simp[Array.getD] at hl
 ·simp[Array.getD] at hl
theorem yQ(hm:P.follows .mixedOrders=true)(last:Nat)(hs:pK ops last=true)(dst:Nat->Nat)(hinj:∀i,i<last->∀j,j<last->dst i=dst j->i=j)(R:Nat->Value->World->Prop)(E:Act->Prop)(W:(Nat->Bool)->World->Prop)(Good:Nat->World->World->Prop)(hE:∀a i x,i<last->E a->E (a.put (some (dst i)) x))(hsize:∀a,E a->∀i,i<last->dst i<a.tmps.size)(hW:∀i l w w',i<last->l i=false->Et ops l->Ip ops l i->W l w->Good i w w'->W (done l i) w')(hR:∀i j x w w',i≠j->R j x w->Good i w w'->R j x w')(hfront:∀(i:Nat)(o:Oper)(a:Act)(w:World)(l:Nat->Bool),ops[i]?=some o->i<last->l i=false->Et ops l->Ip ops l i->E a->W l w->(∀e∈o.after,Region.binds .any e=true->R e.on (a.eval (.tmp (dst e.on))) w)->∀K:Act->World->Prop,(∀x w',Good i w w'->R i x w'->K (a.put (some (dst i)) x) w')->o.wp P a w K Q)(hlast:∀(o:Oper)(a:Act)(w:World),ops[last]?=some o->E a->(∃l,W l w/\∀j,j<last->l j=true)->(∀j,j<last->R j (a.eval (.tmp (dst j))) w)->∀K:Act->World->Prop,(∀a' w',Q .normal a' w'->K a' w')->o.wp P a w K Q)(h0:E a0)(hw0:W (fun _=>false) w0.drew):(Code.region id ops true).wp P Q a0 w0:=Nu hm last (oK hs) dst (fun i j hi hj h=>hinj i hi j hj h) (fun _ _ ho=>(nH hs ho).1) (fun _ _ ho=>(nH hs ho).2) (sO hs) R E W Good hE hsize hW hR hfront hlast h0 hw0
end
theorem Cq(T:Tc):∀(k:Nat)(x:Ts×List (Pc (List Atr))),drn T (k+1) x=(kB T x).bind (drn T k)
 |0,x=>by
  show(some x).bind (kB T)=_;cases h:kB T x with
  |none=>simp[h]
  |some y=>simp[h,drn]
 |k+1,x=>by
  show(drn T (k+1) x).bind (kB T)=_;rw[Cq T k x];cases h:kB T x with
  |none=>rfl
  |some y=>rfl
section
variable {T:Tc}{nxt:Nat->Nat->Int}{rank:Nat->Nat->Nat}{home:Int->Nat}{Ks:List Ky}{M:Nat}
def ids(cs:List (Pc (List Atr))):List (Int×Nat):=cs.map fun c=>(c.num,c.at')
theorem Ud(S:Sh T nxt rank){s:Ts}{n:Nat}(G:Gd T nxt rank home Ks s cs n M){y:Ts×List (Pc (List Atr))}(h:kB T (s,cs)=some y):∃n',n'<n/\Gd T nxt rank home Ks y.1 y.2 n' M/\ids y.2=ids cs/\∀K2,Kin K2 s->Kin K2 y.1:=by
 unfold kB at h;cases hf:xD (jG T s T.nb) with
 |none=>simp only[hf] at h;cases h
 |some z=>
  simp only[hf] at h;obtain⟨z1,z2,z3⟩:=z;have hab:=(Jm (List.mem_of_find?_eq_some hf)).2.1;cases hq:s.q z1 z2 with
  |nil=>simp only[hq] at h;cases h
  |cons m rs=>simp only[hq] at h;obtain⟨n',h1,h2⟩:=G.step S hab hq;injection h with h;subst h;exact⟨n',h1,h2,Dx,fun K2 hk=>vZ hk hq⟩
theorem Ui(S:Sh T nxt rank):∀(n:Nat){s:Ts}{cs:List (Pc (List Atr))},Gd T nxt rank home Ks s cs n M->∃k s' cs' n',drn T k (s,cs)=some (s',cs')/\kB T (s',cs')=none/\Gd T nxt rank home Ks s' cs' n' M/\ids cs'=ids cs/\n'<=n/\∀K2,Kin K2 s->Kin K2 s':=by
 intro n
 induction n using Nat.strongRecOn with
 |ind n ih=>
  intro s cs G;cases h:kB T (s,cs) with
  |none=>exact⟨0,s,cs,n,rfl,h,G,rfl,lZ,fun _ hk=>hk⟩
  |some y=>obtain⟨n1,h1,h2,h4,h5⟩:=Ud S G h;obtain⟨y1,y2⟩:=y;simp only at h2 h4 h5;obtain⟨k,s',cs',n',k1,k2,k3,k4,k5,k6⟩:=ih n1 h1 h2;exact⟨k+1,s',cs',n',by rw[Cq,h];exact k1,k2,k3,k4.trans h4,by omega,fun K2 hk=>k6 K2 (h5 K2 hk)⟩
end
def Zc(A:Nat->Prop)(T:Tc)(C:Rc)(r R:Nat->Rl)(w:World)(cs:List (Pc (List Atr)))(s:Ts)(fp fr:Nat)(Ch:List (Pc (List Atr))->Ts->Prop):Prop:=∃(code:Int)(cs':List (Pc (List Atr)))(s':Ts),Ch cs' s'/\(∀W,Gr w W->Calls prog fp #[.pointer (some ⟨T.TB,0,none⟩)] W fun e w'=>TfP T r code cs' s' W e w') /\∀W,Rw A C T R W cs s->Calls prog fr #[.pointer (some ⟨C.TB,0,none⟩)] W fun e w'=>RwP A C T R code cs' s' W e w'
theorem Kf{r R:Nat->Rl}{s:Ts}{n:Nat}(h:Tf T r w cs s)(H:Chm T home cs)(S:Sh T nxt rank)(G:Gd T nxt rank home Ks s cs n M)(hK:Ks.length<=1048576)(hM:M<549755813888):Zc A T C r R w cs s 28 29 (fun cs' s'=>ids cs'=ids cs/\(∀K2,Kin K2 s->Kin K2 s')/\∃n',n'<=n/\Gd T nxt rank home Ks s' cs' n' M):=by
 obtain⟨k,s',cs',n',d1,d2,d3,d4,d5,d6⟩:=Ui S n G;refine⟨k,cs',s',⟨d4,d6,n',d5,d3⟩,fun W g=>?_,fun W hW=>?_⟩
 ·refine(Yo T r W cs s nxt rank home Ks n M (h.gr g) S G hK hM).mono ?_;rintro e w' ⟨k2,s2,cs2,r2,n2,he,e1,e2,t2,_,_,f2⟩;obtain⟨rfl,e3⟩:=Mx d1 d2 e1 e2;injection e3 with e3 e4;subst e3 e4;exact⟨he,r2,t2,f2⟩
 ·refine(Sa A C T R W cs s nxt rank home Ks n M hW H S G hK hM).mono ?_;rintro e w' ⟨k2,s2,cs2,R2,he,e1,e2,t2,_,f2⟩;obtain⟨rfl,e3⟩:=Mx d1 d2 e1 e2;injection e3 with e3 e4;subst e3 e4;exact⟨he,R2,t2,f2⟩
section
variable {A:Nat->Prop}{T:Tc}{C:Rc}{r R:Nat->Rl}{w:World}{cs:List (Pc (List Atr))}{s:Ts}
theorem Np{n:Nat}(h:Tf T r w cs s)(H:Chm T home cs)(S:Sh T nxt rank)(G:Gd T nxt rank home Ks s cs n M)(hK:Ks.length<=1048576)(hM:M<549755813888)(a b:Int)(ha:I64 a)(hb:I64 b):Cx A T C r R w cs s 26 27 a b (fun cs' s'=>ids cs'=ids cs/\(∀K2,Kin K2 s->Kin K2 s')/\∃n',n'<=n/\Gd T nxt rank home Ks s' cs' n' M):=by
 have hm:=G.sm S hK hM;by_cases hc:∃x y:Nat,(x:Int)=a/\(y:Int)=b/\T.adj x y=true/\s.q x y≠[]
 ·obtain⟨x,y,rfl,rfl,hxy,hq⟩:=hc;obtain⟨m,rs,hq⟩:∃m rs,s.q x y=m::rs:=by
   cases hq':s.q x y with
   |nil=>exact absurd hq' hq
   |cons m rs=>exact⟨m,rs,rfl⟩
  obtain⟨n',h1,h2⟩:=G.step S hxy hq;exact⟨0,_,s.nstep cov T.adj mat x y m,⟨Dx,fun K2 hk=>vZ hk hq,n',by omega,h2⟩,fun W g=>Vd T r W cs s nxt home _ x y m rs (h.gr g) G.I hxy hq hm (G.lo hM),fun W hW=>Lo A C T R W cs s nxt rank home Ks n M x y m rs hW S G H hK hM hxy hq⟩
 ·have hn:∀x y:Nat,(x:Int)=a->(y:Int)=b->T.adj x y=true->s.q x y=[]:=fun x y e1 e2 e3=>dG.1 (fun e4=>hc ⟨x,y,e1,e2,e3,e4⟩);obtain⟨cls,hT,hcs⟩:=h;refine⟨5,cs,s,⟨rfl,fun _ hk=>hk,n,lZ,G⟩,fun W g=>?_,fun W hW=>?_⟩
  ·exact(Pz T r W cls s a b (hT.gr g) ha hb hn).mono (fun e w' he=>TfP.none' ⟨cls,hT.gr g,hcs⟩ he)
  ·refine(Jd A C T R W cs s a b hW hn hm).mono ?_;rintro e w' ⟨he,g⟩;exact⟨he,R,hW.gr g,Fr.gr g⟩
theorem Qq(h:Tf T r w cs s)(hm:Sm T s)(hsr:∀b,b<T.nb->Srt (s.held b))(huni:cs.Pairwise fun x y=>x.num≠y.num)(hcl:cs.length<=16)(hat:∀c∈cs,c.at'<T.nb)(a b:Int)(ha:I64 a)(hb:I64 b):Cx A T C r R w cs s 21 22 a b (fun cs' s'=>cs'=cs/\(s'=s\/∃c∈cs,c.num=a/\lJ (s.held c.at') (a,b)=true/\s'=s.turn cov T.adj c.at' (del (a,b) (s.held c.at')))):=by
 by_cases hc:∃c∈cs,c.num=a
 ·obtain⟨c,hc,rfl⟩:=hc;cases hk:lJ (s.held c.at') (c.num,b) with
  |false=>
   refine⟨5,cs,s,⟨rfl,Or.inl rfl⟩,fun W g=>?_,fun W hW=>?_⟩
   ·obtain⟨cls,x,h1,rfl,hx,rfl⟩:=(h.gr g).find hc;refine(wN T r W cls s x b h1 hx hb (fun q hq e=>?_)).mono (fun e w' he=>TfP.none' ⟨cls,h1,rfl⟩ he);(have:lJ (s.held (jH x).at') ((jH x).num,b)=true:=by unfold lJ;rw[bT];exact⟨q,hq,by rw[beq_iff_eq];exact e⟩);rw[this] at hk;cases hk
   ·refine(Rx A C T R W cs s c b hW hc huni hcl (hat c hc) hm).mono ?_;rintro e w' ⟨R',f,⟨_,he,q⟩|⟨hk',_,_⟩⟩
    ·exact⟨he,R',q,f⟩
    ·rw[hk] at hk';cases hk'
  |true=>
   refine⟨0,cs,_,⟨rfl,Or.inr ⟨c,hc,rfl,hk,rfl⟩⟩,fun W g=>?_,fun W hW=>?_⟩
   ·(obtain⟨q,hq,e⟩:∃q∈s.held c.at',q.key=(c.num,b):=by unfold lJ at hk;rw[bT] at hk;obtain⟨q,hq,e⟩:=hk;exact⟨q,hq,by rw[beq_iff_eq] at e;exact e⟩);refine(Bf T r W cs s c b q (h.gr g) hc hb (hsr _ (hat c hc)) hq e hm).mono ?_;rintro e' w' ⟨he,r',t,f⟩;rw[e] at t;exact⟨he,r',t,f⟩
   ·refine(Rx A C T R W cs s c b hW hc huni hcl (hat c hc) hm).mono ?_;rintro e w' ⟨R',f,⟨hk',_,_⟩|⟨_,he,q⟩⟩
    ·rw[hk] at hk';cases hk'
    ·exact⟨he,R',q,f⟩
 ·have hne:∀c∈cs,c.num≠a:=fun c h1 e=>hc ⟨c,h1,e⟩;obtain⟨cls,hT,hcs⟩:=h;refine⟨5,cs,s,⟨rfl,Or.inl rfl⟩,fun W g=>?_,fun W hW=>?_⟩
  ·exact(Ag T r W cls s a b (hT.gr g) ha (fun x hx e=>hne (jH x) (by rw[<-hcs];exact aQ hx) e)).mono (fun e w' he=>TfP.none' ⟨cls,hT.gr g,hcs⟩ he)
  ·obtain⟨ads,Xs,lv,Ls,cv,rs,rt,hnb,rv,hr⟩:=hW;obtain⟨ca,cc,rfl⟩:=rt.k.cl.shape;(have hrl:rs.length<=16:=by rw[<-aB (f:=pcR),hr];exact hcl);refine(Oa C.TB ca cc rs W a b rt.c2 rt.k.cl.rowAt hrl (fun d hd e=>hne (pcR d) (by rw[<-hr];exact aQ hd) e)).mono ?_;rintro e w' ⟨he,rfl⟩;exact⟨he,R,⟨ads,Xs,lv,Ls,_,rs,rt,hnb,rv,hr⟩,Fr.refl _ _⟩
end
theorem Qw{r:Nat->Rl}{W:World}{s:Ts}(h:Tf T r W cs s)(hm:Sm T s)(hsr:∀b,b<T.nb->Srt (s.held b))(c:Pc (List Atr))(hc:c∈cs)(id:Int)(hid:I64 id)(f:List Wnt)(ad:Option Addr)(cap:Nat)(hl:f.length<=maxLen)(hf:oW W ad f)(hwf:∀y∈f,Wnt.Wf y)(hch:chk f=if gN f=true then 0 else 2)(hfi:gN f=true->FiM W ad f):Calls prog 18 #[.pointer (some ⟨T.TB,0,none⟩),.int .i64 c.num,.int .i64 id,.slice ad f.length cap] W fun e w'=>TfP T r (iT T s c.at' (c.num,id) f) cs (if iT T s c.at' (c.num,id) f=0 then s.turn cov T.adj c.at' (ins ⟨(c.num,id),f, -1⟩ (s.held c.at')) else s) W e w':=by
 by_cases hok:gN f=true
 ·rw[if_pos hok] at hch;cases hk:lJ (s.held c.at') (c.num,id) with
  |true=>
   (have e:iT T s c.at' (c.num,id) f=6:=by unfold iT;rw[if_pos hok,if_pos hk]);rw[e,if_neg (by decide)];obtain⟨q,hq,ek⟩:∃q∈s.held c.at',q.key=(c.num,id):=by unfold lJ at hk;rw[bT] at hk;obtain⟨q,hq,e⟩:=hk;exact⟨q,hq,by rw[beq_iff_eq] at e;exact e⟩
   obtain⟨cls,x,h1,rfl,hx,rfl⟩:=h.find hc;exact(xI T r W cls s x id f ad cap q h1 hx hid (hfi hok) hq ek).mono (fun e w' he=>TfP.none' ⟨cls,h1,rfl⟩ he)
  |false=>
   have hn:∀g∈s.held c.at',g.key≠(c.num,id):=fun g hg e=>by
    (have:lJ (s.held c.at') (c.num,id)=true:=by unfold lJ;rw[bT];exact⟨g,hg,by rw[beq_iff_eq];exact e⟩);rw[this] at hk;cases hk
   by_cases hf64:63<nCl T s
   ·(have e:iT T s c.at' (c.num,id) f=7:=by unfold iT;rw[if_pos hok,hk,if_neg (by decide),if_pos hf64]);rw[e,if_neg (by decide)];obtain⟨cls,x,h1,rfl,hx,rfl⟩:=h.find hc;exact(Ai T r W cls s x id f ad cap h1 hx hid (hfi hok) hsr hn hm (by omega)).mono (fun e w' he=>TfP.none' ⟨cls,h1,rfl⟩ he)
   ·(have e:iT T s c.at' (c.num,id) f=0:=by unfold iT;rw[if_pos hok,hk,if_neg (by decide),if_neg hf64]);rw[e,if_pos rfl];refine(Iq T r W cs s c id f ad cap h hc hid (hfi hok) hsr hn hm (by omega)).mono ?_;rintro e' w' ⟨he,r',t,g⟩;exact⟨he,r',t,g⟩
 ·rw[if_neg hok] at hch;have e:iT T s c.at' (c.num,id) f=2:=by unfold iT;rw[if_neg hok]
  rw[e,if_neg (by decide)];obtain⟨cls,x,h1,rfl,hx,rfl⟩:=h.find hc;refine(Bg T r W cls s x id f ad cap h1 hx hl hf hwf (by rw[hch];decide)).mono (fun e w' he=>?_);rw[hch] at he;exact TfP.none' ⟨cls,h1,rfl⟩ he
theorem FiO.wide{ad:Option Addr}{l:List Wnt}(h:FiO A w ad l)(hA:∀k,A k->A' k):FiO A' w ad l:=by obtain⟨b,off,e,ha⟩:=h.r;exact⟨h.m,b,off,e,hA b ha⟩
theorem EvO.wide{ad:Option Addr}{l:List Atr}(h:EvO A w ad l)(hA:∀k,A k->A' k):EvO A' w ad l:=by obtain⟨b,off,e,ha⟩:=h.r;exact⟨h.m,b,off,e,hA b ha⟩
theorem sF.wide{x:Rms}(h:sF A w x)(hA:∀k,A k->A' k):sF A' w x:=by
 unfold sF at h ⊢;split
 ·rename_i k f e;rw[e] at h;exact FiO.wide h hA
 ·trivial
 ·rename_i v e;rw[e] at h;exact EvO.wide h hA
theorem Rw.wide{R:Nat->Rl}{s:Ts}(h:Rw A C T R w cs s)(hA:∀k,A k->A' k)(hR:∀k,A' k->R k=.no)(hl:∀k,A' k->k<w.heap.size):Rw A' C T R w cs s:=by obtain⟨ads,Xs,lv,Ls,cv,rs,rt,hnb,rv,hr⟩:=h;refine⟨ads,Xs,lv,Ls,cv,rs,⟨⟨rt.b.nb8,rt.b.pos,rt.b.t,rt.b.rT,rt.b.h,rt.b.rH,rt.b.top,hR,hl⟩,⟨rt.h.row,fun b hb x hx=>(rt.h.fi b hb x hx).wide hA⟩,⟨rt.l.lk,rt.l.qu,fun l hl x hx=>(rt.l.ms l hl x hx).wide hA,rt.l.td⟩,⟨rt.k.cl,rt.k.bx,fun c hc x hx=>(rt.k.be c hc x hx).wide hA⟩⟩,hnb,rv,hr⟩
theorem Vz{R:Nat->Rl}{W:World}{s:Ts}(hW:Rw A C T R W cs s)(hm:Sm T s)(hsr:∀b,b<T.nb->Srt (s.held b))(c:Pc (List Atr))(hc:c∈cs)(huni:cs.Pairwise fun x y=>x.num≠y.num)(hcl:cs.length<=16)(hatc:c.at'<T.nb)(id:Int)(f:List Wnt)(ad:Option Addr)(cap:Nat)(hl:f.length<=maxLen)(hf:oW W ad f)(hwf:∀y∈f,Wnt.Wf y)(hA:gN f=true->FiO A W ad f)(hm':(ins ⟨(c.num,id),f, -1⟩ (s.held c.at')).length<=1048576)(hfr:∀b,b<T.nb->∀x∈s.held b,x.fr=-1\/0<=x.fr):Calls prog 20 #[.pointer (some ⟨C.TB,0,none⟩),.int .i64 c.num,.int .i64 id,.slice ad f.length cap] W fun e w'=>RwP A C T R (iT T s c.at' (c.num,id) f) cs (if iT T s c.at' (c.num,id) f=0 then s.turn cov T.adj c.at' (ins ⟨(c.num,id),f, -1⟩ (s.held c.at')) else s) W e w':=by
 refine(Zj A C T R W cs s c id f ad cap hW hc huni hcl hatc hl hf hwf hA hsr hm hm' hfr).mono ?_;rintro e w' ⟨he,R',g,⟨h0,q⟩|⟨h0,q⟩⟩
 ·rw[if_neg h0];exact⟨he,R',q,g⟩
 ·rw[if_pos h0];exact⟨he,R',q,g⟩
structure FiC(A:Nat->Prop)(w:World)(ad:Option Addr)(f:List Wnt):Prop where
 wf:∀x∈f,Wnt.Wf x
 len:f.length<=2513169434845
 at':f=[]\/∃b off,ad=some ⟨b,off,none⟩/\A b/\b<w.heap.size/\iD w b off f
section
variable {A:Nat->Prop}{w w':World}{ad:Option Addr}{f:List Wnt}
theorem FiC.keep(h:FiC A w ad f)(hs:w.heap.size<=w'.heap.size)(hk:∀k,k<w.heap.size->A k->w'.heap[k]?=w.heap[k]?):FiC A w' ad f:=⟨h.wf,h.len,h.at'.imp id (fun⟨b,off,e,h1,h2,h3⟩=>⟨b,off,e,h1,aF h2 hs,h3.blk (hk b h2 h1)⟩)⟩
theorem FiC.gr(h:FiC A w ad f)(g:Gr w w'):FiC A w' ad f:=h.keep g.size (fun k hk _=>g.block k hk)
theorem FiC.fi(h:FiC A w ad f):oW w ad f:=by
 rcases h.at' with e|⟨b,off,e,_,hl,hw⟩
 ·exact Or.inl e
 ·exact Or.inr ⟨b,off,e,hl,hw⟩
theorem wW(h:gN f=true):f≠[]:=by rintro rfl;simp[gN] at h
theorem FiC.fo(h:FiC A w ad f)(hok:gN f=true):FiO A w ad f:=by
 rcases h.at' with e|⟨b,off,e,ha,hl,hw⟩
 ·exact absurd e (wW hok)
 ·exact⟨⟨⟨b,off,e,hl,hw⟩,h.wf,hok⟩,b,off,e,ha⟩
def Fcp(b0:Nat)(w:World)(ad:Option Addr)(f:List Wnt):Prop:=(f=[]/\ad=none)\/∃g,ad=some ⟨g,0,none⟩/\b0<=g/\g<w.heap.size/\iD w g 0 f
theorem Fcp.keep(h:Fcp b0 w ad f)(g:Kx (fun k=>k<b0) w w'):Fcp b0 w' ad f:=by
 rcases h with e|⟨q,e,h1,h2,h3⟩
 ·exact Or.inl e
 ·exact Or.inr ⟨q,e,h1,aF h2 g.size,h3.blk (g.keep q h2 (by omega))⟩
theorem Fcp.low{b1:Nat}(h:Fcp b1 w ad f)(hb:b0<=b1):Fcp b0 w ad f:=by
 rcases h with e|⟨q,e,h1,h2,h3⟩
 ·exact Or.inl e
 ·exact Or.inr ⟨q,e,aA hb h1,h2,h3⟩
theorem Fcp.fi(h:Fcp b0 w ad f):oW w ad f:=by
 rcases h with e|⟨q,e,h1,h2,h3⟩
 ·exact Or.inl e.1
 ·exact Or.inr ⟨q,0,e,h2,h3⟩
theorem Fcp.fm(h:Fcp b0 w ad f)(hwf:∀x∈f,Wnt.Wf x)(hok:gN f=true):FiM w ad f:=by
 rcases h with e|⟨q,e,h1,h2,h3⟩
 ·exact absurd e.1 (wW hok)
 ·exact⟨⟨q,0,e,h2,h3⟩,hwf,hok⟩
end
section
variable {A:Nat->Prop}{T:Tc}{C:Rc}{r R:Nat->Rl}{LB PB BB:Nat}{B D:Nat->Prop}{L M:Nat}{w:World}{cs:List (Pc (List Atr))}{s:Ts}
theorem St.copied(h:St A T C r R LB PB BB B D L M w cs s){D':Nat->Prop}{M':Nat}{w1:World}(kx:Kx D w w1)(le:Le A LB D' M' w1)(hD:∀k,k<w.heap.size->D' k->D k):St A T C r R LB PB BB B D' L M' w1 cs s:=by
 have tr:=h.pr.p.b.top;have tR:=h.pr.q.top.1;have tA:=h.pr.q.top.2;have tp:=fZ h.pr.pb;have t0:0<w.heap.size:=h.pr.p.b.ml.pos;have hno:∀k,D' k->r k=.no/\R k=.no/\¬A k/\k≠PB/\k≠0:=fun k hk=>by
  rcases cG k w.heap.size with hl|hl
  ·exact h.sD k (hD k hl hk)
  ·exact⟨tr k hl,tR k hl,fun c=>absurd (tA k c) (by omega),by omega,by omega⟩
 have h0:¬D 0:=fun e=>(h.sD 0 e).2.2.2.2 rfl;have hp:¬D PB:=fun e=>(h.sD PB e).2.2.2.1 rfl;refine⟨h.pr.apart kx.fr (fun k=>?_) (fun k=>?_) (fun k hk=>kS (fun e=>(h.sD k e).2.2.1 hk)) (kS h0) (kS hp),h.bo.apart kx (fun k hb hd=>(h.sB k hb).2.2.1 hd),le,fun k hk=>?_,hno⟩
 ·by_cases e:D k
  ·exact Or.inl (h.sD k e).1
  ·exact Or.inr (kS e)
 ·by_cases e:D k
  ·exact Or.inl (h.sD k e).2.1
  ·exact Or.inr (kS e)
 ·obtain⟨a1,a2,a3,a4,a5,a6⟩:=h.sB k hk;exact⟨a1,a2,fun e=>a3 (hD k (h.bo.lt k hk) e),a4,a5,a6⟩
def CpS(A:Nat->Prop)(T:Tc)(C:Rc)(r R:Nat->Rl)(LB PB BB:Nat)(B D:Nat->Prop)(L M:Nat)(w:World)(cs:List (Pc (List Atr)))(s:Ts)(W:World):Prop:=∃D',(∀k,k<w.heap.size->D' k->D k)/\Kx D w W/\St A T C r R LB PB BB B D' L (M+1) W cs s
theorem St.copy(h:St A T C r R LB PB BB B D L M w cs s)(hM:M<=1099511627776)(f:List Wnt)(ad:Option Addr)(cap:Nat)(hf:FiC A w ad f):Calls prog 19 #[.pointer (some ⟨LB,0,none⟩),.slice ad f.length cap] w fun e w'=>∃ad' cap',e=.returned (.slice ad' f.length cap')/\Fcp w.heap.size w' ad' f/\CpS A T C r R LB PB BB B D L M w cs s w':=by
 by_cases hne:f=[]
 ·subst hne;refine(He ad cap _ w).mono ?_;rintro e w' ⟨he,hw⟩;rw[hw];exact⟨none,0,he,Or.inl ⟨rfl,rfl⟩,D,fun _ _ e=>e,Kx.gr (Gr.refl w),h.copied (Kx.gr (Gr.refl w)) (h.le.up (cD _)) (fun _ _ e=>e)⟩
 ·refine(h.le.filter hM f ad cap hne hf.len (hf.at'.resolve_left hne) hf.wf).mono ?_;rintro e w' ⟨g,he,h1,h2,h3,h4,h5⟩;exact⟨_,_,he,Or.inr ⟨g,rfl,h1,h2,h3⟩,_,fun k hk hd=>Bn.old hk hd,h5,h.copied h5 h4 (fun k hk hd=>Bn.old hk hd)⟩
end
def Zb(A:Nat->Prop)(T:Tc)(C:Rc)(r R:Nat->Rl)(_:World)(cs:List (Pc (List Atr)))(s:Ts)(a b:Int)(f:List Wnt)(fad:Option Addr)(fc:Nat)(Ch:List (Pc (List Atr))->Ts->Prop):Prop:=∃(code:Int)(cs':List (Pc (List Atr)))(s':Ts),Ch cs' s'/\(∀W b0 ad cap,Tf T r W cs s->Fcp b0 W ad f->Calls prog 18 #[.pointer (some ⟨T.TB,0,none⟩),.int .i64 a,.int .i64 b,.slice ad f.length cap] W fun e w'=>TfP T r code cs' s' W e w') /\∀W,Rw A C T R W cs s->FiC A W fad f->Calls prog 20 #[.pointer (some ⟨C.TB,0,none⟩),.int .i64 a,.int .i64 b,.slice fad f.length fc] W fun e w'=>RwP A C T R code cs' s' W e w'
def Vf(A:Nat->Prop)(T:Tc)(C:Rc)(r R:Nat->Rl)(LB PB BB:Nat)(B D:Nat->Prop)(L M:Nat)(Ch:List (Pc (List Atr))->Ts->Prop)(w:World)(e:Ending)(w':World):Prop:=e=.returned (.bool true)/\∃r' R' D' cs' s',Ch cs' s'/\(∀k,k<w.heap.size->D' k->D k)/\St A T C r' R' LB PB BB B D' L (M+1) w' cs' s'/\Kq r R r' R' B D w w'
def MdS(A:Nat->Prop)(T:Tc)(C:Rc)(r R:Nat->Rl)(LB PB BB:Nat)(B D:Nat->Prop)(L M:Nat)(w:World)(cs:List (Pc (List Atr)))(s:Ts)(cs':List (Pc (List Atr)))(s':Ts)(W:World):Prop:=∃r1 w1,CpS A T C r R LB PB BB B D L M w cs s w1/\Tf T r1 W cs' s'/\Fr r r1 w1 W
section
variable {A:Nat->Prop}{T:Tc}{C:Rc}{r R:Nat->Rl}{LB PB BB:Nat}{B D:Nat->Prop}{L M:Nat}{w:World}{cs:List (Pc (List Atr))}{s:Ts}
theorem CpS.pb{w1:World}(h:CpS A T C r R LB PB BB B D L M w cs s w1):w1.heap[PB]?=some (.cells #[.pointer (some ⟨T.TB,0,none⟩),.pointer (some ⟨C.TB,0,none⟩),.pointer (some ⟨LB,0,none⟩),.pointer (some ⟨BB,0,none⟩)] 55 (0,0))/\r PB=.no/\R PB=.no:=by obtain⟨D',_,_,h⟩:=h;exact⟨h.pr.pb,h.pr.np⟩
theorem MdS.fin{cs':List (Pc (List Atr))}{s':Ts}{W:World}(h:MdS A T C r R LB PB BB B D L M w cs s cs' s' W){R2:Nat->Rl}{w2:World}(g2:Fr R R2 W w2)(q2:Rw A C T R2 w2 cs' s'):∃r1 D',(∀k,k<w.heap.size->D' k->D k)/\St A T C r1 R2 LB PB BB B D' L (M+1) w2 cs' s'/\Kq r R r1 R2 B D w w2:=by
 obtain⟨r1,w1,⟨D',h1,h2,h3⟩,t,f⟩:=h;obtain⟨k1,k2⟩:=h3.both f t g2 q2;refine⟨r1,D',h1,k1,(h2.wide (fun k _ e=>Or.inr (Or.inr (Or.inr e)))).trans k2.1 (fun k hk e=>?_),fun k hk=>k2.2 k (aF hk h2.size)⟩;rcases e with e|e|e|e
 ·exact Or.inl e
 ·exact Or.inr (Or.inl e)
 ·exact Or.inr (Or.inr (Or.inl e))
 ·exact Or.inr (Or.inr (Or.inr (h1 k hk e)))
theorem CpS.pre{W w1:World}(g:Gr w W)(h:CpS A T C r R LB PB BB B D L M W cs s w1):CpS A T C r R LB PB BB B D L M w cs s w1:=by obtain⟨D',h1,h2,h3⟩:=h;exact⟨D',fun k hk=>h1 k (aF hk g.size),(Kx.gr g).trans h2 (fun _ _ e=>e),h3⟩
end
section
variable {F E:Type}{cov:F->F->Bool}{adj:Nat->Nat->Bool}{rank:Nat->Nat->Nat}
theorem Rp{x b y a c g r:Nat}{A:Bool}:(if x=b/\A=true then g+r else g)+(if x=a then(if y=c then 0 else 0) else 0)<=g+(if x=b then(if A=true then r else 0) else 0):=by have:=Db (x:=x) (b:=b) (y:=y) (a:=a) (c:=c) (g:=g) (r:=r) (k:=1) (A:=A);simpa only[Nat.mul_one] using this
theorem Un{mt:E->F->Bool}{nb B:Nat}(S:Rs nb adj rank){s:TS F E}{n:Nat}(h:Wgt cov rank nb B s n)(b:Nat)(hb:b<nb)(fr:Int)(e:E):Wgt cov rank nb B (s.come adj mt b fr e) (n+nb):=by
 obtain⟨g,h1,h2⟩:=h;refine⟨fun x y=>if x=b/\adj b y=true then g x y+rank y b else g x y,fun x y=>?_,?_⟩
 ·show Wq cov _ _ (if x=b/\adj b y=true/\_ then _ else _) (hfr (s.held y) x) _;by_cases hx:x=b/\adj b y=true
  ·rw[if_pos hx];split
   ·refine(h1 x y).append ⟨rank y b,0,by omega,trivial,Or.inr ?_⟩;rw[hx.1];exact lZ
   ·exact(h1 x y).mono (by omega)
  ·rw[if_neg hx,if_neg (fun h=>hx ⟨h.1,h.2.1⟩)];exact h1 x y
 ·have h3:=uF (c:=0) (g:=g) (g':=fun x y=>if x=b/\adj b y=true then g x y+rank y b else g x y) (add:=fun x y=>if x=b then(if adj b y=true then rank y b else 0) else 0) hb hb (fun x y=>Rp);rw[xP hb] at h3;have h4:=S.tot _ hb;show sm nb (fun x=>sm nb fun y=>if x=b/\adj b y=true then g x y+rank y b else g x y)<=_;omega
end
section
variable {T:Tc}{nxt:Nat->Nat->Int}{rank:Nat->Nat->Nat}{home:Int->Nat}{Ks:List Ky}{s:Ts}{cs:List (Pc (List Atr))}{n M:Nat}
theorem Gd.pub(S:Sh T nxt rank)(G:Gd T nxt rank home Ks s cs n M)(b:Nat)(hb:b<T.nb)(fr:Int)(fs:Bool×Int)(e:List Atr):Gd T nxt rank home Ks (s.come T.adj mat b fr e) (cs.map (jA mat (s.held b) fs e)) (n+T.nb) (M+T.nb+1):=by
 refine⟨Hq G.I b fr e,⟨G.K.held,fun x y k f hm=>G.K.q x y k f ?_⟩,Un S.S G.W b hb fr e,fun c hc=>?_,by have:=G.le;omega⟩
 ·simp only[TS.come] at hm;split at hm
  ·simpa using hm
  ·exact hm
 ·obtain⟨d,hd,rfl⟩:=aC.1 hc;have k1:=G.L d hd;have k2:=rY (mt:=mat) (s.held b) fs e d;exact⟨by omega,by omega,k2.2.2 k1.2.2⟩
end
def Fz:Atr:=⟨⟨#[115,105,122,101]⟩,1,9,⟨#[]⟩⟩
theorem uM(l:List Atr)(b off cap:Nat)(w:World)(hl:l.length<=maxLen)(hb:b<w.heap.size)(hat:iP w b off l)(hwf:∀x∈l,Atr.Wf x):Calls prog 53 #[.slice (some ⟨b,off,none⟩) l.length cap] w fun e w'=>e=.returned (.int .i64 (oB l))/\Gr w w':=by
 unfold maxLen at hl;have HC:Hid (iP w b off l):=hat;have HF:Hid (∀x∈l,Atr.Wf x):=hwf;clear hat hwf;go_enter func53,ntmps53;go_wp2
 ·go_ret;exact⟨jE (tB ‹_›).symm,gZ⟩
 ·go_loopw [3] (fun i wr=>∃k:Nat,k<=l.length/\i=.int .i64 k/\Gr w wr/\Hid ((List.range k).all (nP l)=true)) (fun i _=>l.length-(intOf i).toNat);case atStart=>exact⟨0,zZ,rfl,gZ,rfl⟩
  case round=>
   obtain⟨k,hk,rfl,g,HA⟩:=hrel;by_cases hlt:k<l.length
   ·obtain⟨c1,c2,c3,c4⟩:=(HC.gr g hb) k hlt;have hb':=g.lt hb;cases hn:lI (aat l k).a
    ·generalize hv:iA (aat l k).k (aat l k).n (aat l k).s=bv;go_wp2_with(first|(go_at_call 85;refine(uU _ _ (HF _ (pJ hlt)).a).mono ?_;rw[hn];rintro e w' ⟨rfl,rfl⟩)|(go_at_call 86;refine(sN _ _ _ _).mono ?_;rw[hv];rintro e w1 ⟨rfl,hb1⟩));have gz:Gr w w1:=Gr.call g hb1;clear c1 c2 c3 c4;go_quiet(fail);go_wp2;go_ret;exact⟨jE (oE k hlt (by simp[nP,hn])).symm,gz.drewN _⟩
    ·cases hv:iA (aat l k).k (aat l k).n (aat l k).s
     ·go_wp2_with(first|(go_at_call 85;refine(uU _ _ (HF _ (pJ hlt)).a).mono ?_;rw[hn];rintro e w' ⟨rfl,rfl⟩)|(go_at_call 86;refine(sN _ _ _ _).mono ?_;rw[hv];rintro e w1 ⟨rfl,hb1⟩));have gz:Gr w w1:=Gr.call g hb1;clear c1 c2 c3 c4;go_quiet(fail);go_wp2;go_ret;exact⟨jE (oE k hlt (by simp[nP,hv])).symm,gz.drewN _⟩
     ·go_wp2_with(first|(go_at_call 85;refine(uU _ _ (HF _ (pJ hlt)).a).mono ?_;rw[hn];rintro e w' ⟨rfl,rfl⟩)|(go_at_call 86;refine(sN _ _ _ _).mono ?_;rw[hv];rintro e w1 ⟨rfl,hb1⟩));have gz:Gr w w1:=Gr.call g hb1;have hbz:=gz.lt hb;clear c1 c2 c3 c4;by_cases hk0:k=0
      ·(have hd:decide (0<(k:Int))=false:=by simp;omega);have HO:Hid (nP l k=true):=by show _=_;simp only[nP,hn,hv,show(k==0)=true by simpa using hk0,Bool.true_or,Bool.and_self]
       go_quiet(fail);go_wp2;go_roundw;case rel=>exact⟨k+1,by omega,by subst hk0;rfl,gz.drewN _,qR k HA.out HO.out⟩
       case measure=>simp[intOf];omega
      ·obtain⟨p1,p2,p3,p4⟩:=(HC.gr gz hb) (k-1) (by omega);obtain⟨c1,c2,c3,c4⟩:=(HC.gr gz hb) k hlt;(have hi0:0<k:=by omega);(have hd:decide (0<k)=true:=by simpa using hi0);clear hk0;(have hw1:IntKind.i64.wrap ((k:Int)-1)=((k-1:Nat):Int):=by rw[IntWalk.i64_in _ (by omega)];omega);(have hi1:(0:Int)<(k:Int):=by omega);(have hi4:((k-1:Nat):Int)<(l.length:Int):=by omega);(have hi5:k-1<l.length:=by omega);(have hi6:(k:Int)<(l.length:Int):=by omega);(have hi2:(0:Int)<=(k:Int)-1:=by omega);(have hi3:(k:Int)-1<(l.length:Int):=by omega);(have HO:Hid (nP l k=Op.bytesLess (aat l (k-1)).a.toList (aat l k).a.toList):=by show _=_;simp[nP,hn,hv,show(k==0)=false by simp;omega]);go_quiet(fail);go_wp2
       ·(have hh:(!Op.bytesLess (aat l (k-1)).a.toList (aat l k).a.toList)=true:=by rw[<-pI];first|assumption|(simpa[Bool.or_comm] using ‹_\/_›)|(simp;simp_all));go_ret;refine⟨jE (oE k hlt ?_).symm,gz.drewN _⟩;rw[HO.out];simpa using hh
       ·(have hh:(!Op.bytesLess (aat l (k-1)).a.toList (aat l k).a.toList)=false:=by rw[<-pI];first|assumption|(simpa[Bool.or_comm] using ‹_\/_›)|(simp;simp_all));refine⟨⟨k+1,by omega,by go_num,gz.drewN _,qR k HA.out ?_⟩,?_⟩
        ·rw[HO.out];simpa using hh
        ·simp[intOf];omega
   ·go_wp2;go_ret;exact⟨jE (Hx k hlt hk (by omega) (by omega) HA.out).symm,g⟩
 ·go_ret;exact⟨jE (tB (Or.inl ‹_›)).symm,gZ⟩
theorem uL(ad:Option Addr)(cap:Nat)(w:World):Calls prog 53 #[.slice ad 0 cap] w fun e w'=>e=.returned (.int .i64 1)/\w'=w:=by go_enter func53,ntmps53;go_wp2;go_ret;exact⟨rfl,rfl⟩
theorem vS(l:List Atr)(ad:Option Addr)(cap:Nat)(w:World)(hl:l.length<=maxLen)(h:rA w ad l)(hwf:∀x∈l,Atr.Wf x):Calls prog 53 #[.slice ad l.length cap] w fun e w'=>e=.returned (.int .i64 (oB l))/\Gr w w':=by
 rcases h with rfl|⟨b,off,rfl,hb,hat⟩
 ·exact(uL ad cap w).mono fun e w' ⟨h1,h2⟩=>⟨h1,by rw[h2];exact gZ⟩
 ·exact uM l b off cap w hl hb hat hwf
end Go.Proofs.YtecnfgikbmcgoabGreat
