import Derived.Test.YtecnfgikbmcgoaaGreatG26
namespace Go.Proofs.YtecnfgikbmcgoaaGreat
open Go.RowKit
def NoEv (s:Ts):Prop:=∀ a b e,Ms.ev e ∉ s.q a b
theorem chg_noEv {l l':List Hw} {n:Int} {e:List Atr}:(Ms.ev e:Ms (List Wnt) (List Atr)) ∉ chg cov l l' n:=by
 simp [chg,subs,unss]
theorem turn_noEv {adj:Nat→Nat→Bool} {s:Ts} (h:NoEv s) (b:Nat) (l':List Hw):NoEv (s.turn cov adj b l'):=by
 intro x y e he
 simp only [TS.turn] at he
 split at he
 ·rcases List.mem_append.1 he with he | he
  ·exact h x y e he
  ·exact chg_noEv he
 ·exact h x y e he
theorem pop_noEv {s:Ts} (h:NoEv s) (a b:Nat):NoEv (s.pop a b):=by
 intro x y e he
 simp only [TS.pop] at he
 split at he
 ·exact h x y e (List.mem_of_mem_tail he)
 ·exact h x y e he
theorem nstep_noEv {adj:Nat→Nat→Bool} {s:Ts} (h:NoEv s) {a b:Nat} {m:Ms (List Wnt) (List Atr)} {r:List (Ms (List Wnt) (List Atr))} (hq:s.q a b=m::r):NoEv (s.nstep cov adj mat a b m) ∧ ∀ e,m ≠ .ev e:=by
 have hm:∀ e,m ≠ .ev e:=fun e he=>h a b e (by rw [hq,he];exact List.mem_cons_self)
 refine ⟨?_,hm⟩
 cases m with
 | sub k f=>exact turn_noEv (pop_noEv h a b) b _
 | uns k=>exact turn_noEv (pop_noEv h a b) b _
 | ev e=>exact absurd rfl (hm e)
theorem lkTo_lks (T:Tc) (s:Ts):lkTo T s T.nb=(lks T).map fun p=>(p.1,p.2,(s.q p.1 p.2).length):=by
 unfold lkTo lks lk1
 rw [List.map_flatMap]
 congr 1
 funext a
 rw [List.map_map];rfl
theorem hrs_same {l:List Hw} {a:Nat} {m:Ms (List Wnt) (List Atr)} {cs:List (Pc (List Atr))} (h:∀ e,m ≠ .ev e):hrs mat l a m cs=cs:=by
 cases m with
 | ev e=>exact absurd rfl (h e)
 | sub k f=>rfl
 | uns k=>rfl
theorem Rv.first {T:Tc} {Xs:Nat→List Hm} {Ls:List Rln} {s:Ts} (h:Rv T Xs Ls s) {j:Nat} (hj:j<Ls.length) (h0:∀ i,i<j→(lnat Ls i).q.length=0) (h1:0<(lnat Ls j).q.length) :
  fst_ (lkTo T s T.nb)=some ((lnat Ls j).fr,(lnat Ls j).to,(lnat Ls j).q.length):=by
 have hl:(lkTo T s T.nb).length=Ls.length:=by
  have:=congrArg List.length h.lk
  rw [List.length_map,linksOf_len] at this
  rw [lkTo_lks,List.length_map];exact this.symm
 have at':∀ i,i<Ls.length→lat (lkTo T s T.nb) i=((lnat Ls i).fr,(lnat Ls i).to,(lnat Ls i).q.length):=by
  intro i hi
  have e:=alat h.lk hi
  obtain ⟨a1,_,_,_,a5,_⟩:=linksOf_at e
  have q:=congrArg List.length a5
  simp only [Rln.av,List.length_map] at q a1
  unfold lat
  rw [List.getD_eq_getElem?_getD,lkTo_lks,List.getElem?_map,a1]
  simp only [Option.map_some,Option.getD_some,q]
 have:=fst_hit (l:=lkTo T s T.nb) (j:=j) (by omega) (fun x hx=>by
  obtain ⟨i,hi,rfl⟩:=List.getElem_of_mem hx
  have hi':i<j:=by simp at hi;omega
  have:=at' i (by omega)
  rw [List.getElem_take]
  have e:(lkTo T s T.nb)[i]'(by omega)=lat (lkTo T s T.nb) i:=by
   unfold lat;rw [List.getD_eq_getElem?_getD,List.getElem?_eq_getElem (by omega)];rfl
  rw [e,this]
  exact h0 i hi') (by rw [at' j hj];exact h1)
 rw [this,at' j hj]
theorem Rv.still {T:Tc} {Xs:Nat→List Hm} {Ls:List Rln} {s:Ts} (h:Rv T Xs Ls s) (h0:∀ i,i<Ls.length→(lnat Ls i).q.length=0) (cs:List (Pc (List Atr))):dstep T (s,cs)=none:=by
 have:fst_ (lkTo T s T.nb)=none:=by
  unfold fst_
  rw [List.find?_eq_none]
  intro x hx
  rw [lkTo_lks] at hx
  obtain ⟨p,hp,rfl⟩:=List.mem_map.1 hx
  obtain ⟨k,hk,hkk⟩:=List.getElem_of_mem hp
  have hl:Ls.length=(lks T).length:=by
   have:=congrArg List.length h.lk
   rwa [List.length_map,linksOf_len] at this
  have e:=alat h.lk (k:=k) (by omega)
  obtain ⟨a1,_,_,_,a5,_⟩:=linksOf_at e
  have q:=congrArg List.length a5
  simp only [Rln.av,List.length_map] at q a1
  rw [List.getElem?_eq_getElem hk,hkk] at a1
  injection a1 with a1
  rw [a1]
  simp only [decide_eq_true_eq]
  rw [← q,h0 k (by omega)]
  omega
 unfold dstep
 rw [this]
theorem len17 {z:List Value} (h:z.length=17):∃ z0 z1 z2 z3 z4 z5 z6 z7 z8 z9 z10 z11 z12 z13 z14 z15 z16,z=[z0,z1,z2,z3,z4,z5,z6,z7,z8,z9,z10,z11,z12,z13,z14,z15,z16]:=by
 match z,h with
 | [z0,z1,z2,z3,z4,z5,z6,z7,z8,z9,z10,z11,z12,z13,z14,z15,z16],_=>exact ⟨_,_,_,_,_,_,_,_,_,_,_,_,_,_,_,_,_,rfl⟩
def Rdr (TB g off n lc k fr to:Nat) (j:Nat) (x:Value) (_w:World):Prop :=
 match j with
 | 0=>x = .pointer (some ⟨TB,0,none⟩)
 | 1=>x = .pointer (some ⟨TB,0,none⟩)
 | 2=>x = .pointer (some ⟨TB,0,none⟩)
 | 3=>x = .pointer (some ⟨TB,1,none⟩)
 | 4=>x = .slice (some ⟨g,off,none⟩) n lc
 | 5=>x = .int .i64 k
 | 6=>x = .pointer (some ⟨g,off+k*4,none⟩)
 | 7=>x = .pointer (some ⟨g,off+k*4,none⟩)
 | 8=>x = .int .i64 fr
 | 9=>x = .pointer (some ⟨TB,0,none⟩)
 | 10=>x = .pointer (some ⟨TB,0,none⟩)
 | 11=>x = .pointer (some ⟨TB,1,none⟩)
 | 12=>x = .slice (some ⟨g,off,none⟩) n lc
 | 13=>x = .int .i64 k
 | 14=>x = .pointer (some ⟨g,off+k*4,none⟩)
 | 15=>x = .pointer (some ⟨g,off+k*4+1,none⟩)
 | 16=>x = .int .i64 to
 | _=>True
theorem Rdr.st {TB g off n lc k fr to:Nat} (j:Nat) (x:Value) (wa wb:World) (h:Rdr TB g off n lc k fr to j x wa):Rdr TB g off n lc k fr to j x wb:=by
 unfold Rdr at h ⊢;split <;> first | exact h | trivial
def DrP (A:Nat→Prop) (C:Rc) (T:Tc) (R:Nat→Rl) (w:World) (cs:List (Pc (List Atr))) (s:Ts) (e:Ending) (w':World):Prop :=
 ∃ k s' R',e = .returned (.int .i64 (k:Nat))∧drn T k (s,cs)=some (s',cs)∧dstep T (s',cs)=none∧Rw A C T R' w' cs s'∧NoEv s'∧Fr R R' w w'
def DrF (A:Nat→Prop) (C:Rc) (T:Tc) (R:Nat→Rl) (w:World) (cs:List (Pc (List Atr))) (s:Ts) (nxt:Nat→Nat→Int) (rank:Nat→Nat→Nat) (home:Int→Nat) (Ks:List Ky) (M kk c:Nat) (w':World):Prop :=
 ∃ s' R' k',k'<kk∧Gd T nxt rank home Ks s' cs k' M∧drn T (c+1) (s,cs)=some (s',cs)∧Rw A C T R' w' cs s'∧NoEv s'∧Fr R R' w w'
theorem Rw.c1 {A:Nat→Prop} {C:Rc} {T:Tc} {R:Nat→Rl} {w:World} {cs:List (Pc (List Atr))} {s:Ts} (h:Rw A C T R w cs s):∃ la n lc,w.cell? ⟨C.TB,1,none⟩=some (.slice la n lc)∧n≤64:=by
 obtain ⟨ads,Xs,lv,Ls,cv,rc,rt,hnb,rv,_⟩:=h
 obtain ⟨la,lc,rfl⟩:=rt.lshape
 exact ⟨la,_,lc,rt.c1,rv.n64 (by rw [← hnb];exact rt.b.nb8)⟩
set_option maxRecDepth 100000 in
set_option maxHeartbeats 4000000 in
theorem rDrain_d (A:Nat→Prop) (C:Rc) (T:Tc) (R:Nat→Rl) (w:World) (cs:List (Pc (List Atr))) (s:Ts) (nxt:Nat→Nat→Int) (rank:Nat→Nat→Nat) (home:Int→Nat) (Ks:List Ky) (n M:Nat)
  (hT:Rw A C T R w cs s) (hE:NoEv s) (S:Sh T nxt rank) (G:Gd T nxt rank home Ks s cs n M) (hK:Ks.length≤1048576) (hM:M<549755813888) :
  Calls Tryz.prog 66 #[.pointer (some ⟨C.TB,0,none⟩)] w fun e w'=>DrP A C T R w cs s e w':=by
 have HT:=Hid.mk' hT
 have HE:=Hid.mk' hE
 have HS:=Hid.mk' S
 have HG:=Hid.mk' G
 have hnM:n<549755813888:=Nat.lt_of_le_of_lt G.le hM
 have HK:=Hid.mk' hK
 have HM:=Hid.mk' hM
 clear hT hE S G hK hM
 go_enter Tryz.func66,Tryz.ntmps66
 go_wp2_with fail
 go_loopg [3,4] (2*n+1) (fun k v mo wr=>∃ (c:Nat) (s':Ts) (R':Nat→Rl) (kk:Nat) (fl:Bool),v = .int .i64 c∧mo = .bool fl∧k=2*kk+(if fl=true then 1 else 0)∧c+kk≤n∧Hid (Gd T nxt rank home Ks s' cs kk M)∧Hid (drn T c (s,cs)=some (s',cs))∧Hid (Rw A C T R' wr cs s')∧Hid (NoEv s')∧Hid (Fr R R' w wr)∧Hid (fl=false→dstep T (s',cs)=none))
 case atStart=>exact ⟨0,s,R,n,true,rfl,rfl,rfl,by omega,HG,rfl,HT,HE,Fr.refl _ _,fun h=>by cases h⟩
 case round =>
  obtain ⟨c,s',R',kk,fl,rfl,rfl,rfl,hck,G2,RN,T2,E2,F2,FL⟩:=hrel
  cases fl with
  | false =>
   have HD:=Hid.mk' (FL.out rfl)
   go_wp2_with fail
   go_ret
   exact ⟨c,s',R',rfl,RN.out,HD.out,T2.out,E2.out,F2.out⟩
  | true =>
   clear FL
   rename World=>wo
   obtain ⟨ads,Xs,lv,Ls,cv,rc,rt,hnb,rv,hcs⟩:=T2.out
   obtain ⟨la,lc,rfl⟩:=rt.lshape
   have hn64:=rv.n64 (by rw [← hnb];exact rt.b.nb8)
   have SM2:=Hid.mk' (G2.out.sm HS.out HK.out HM.out)
   have HQL:=Hid.mk' (rv.qlen SM2.out)
   have HRT:=Hid.mk' rt
   have HRV:=Hid.mk' rv
   have hcn:c≤n:=by omega
   clear rt rv hcs
   go_wp2_with fail
   go_loopw [3,4,5] (fun v mo i wr'=>∃ q:Nat,q≤Ls.length∧i = .int .i64 q∧((v = .int .i64 c∧mo = .bool false∧Hid (Gr wo wr')∧Hid (∀ j,j<q→(lnat Ls j).q.length=0))∨(v = .int .i64 ((c:Int)+1)∧mo = .bool true∧Hid (DrF A C T R w cs s nxt rank home Ks M kk c wr')))) (fun _ _ i _=>Ls.length - (intOf i).toNat)
   case atStart=>exact ⟨0,Nat.zero_le _,rfl,Or.inl ⟨rfl,rfl,Gr.refl _,fun j hj=>absurd hj (Nat.not_lt_zero j)⟩⟩
   case round =>
    obtain ⟨q,hqk,rfl,hcase⟩:=hrel
    rcases hcase with ⟨rfl,rfl,GQ,HZ⟩ | ⟨rfl,rfl,FD⟩
    ·have t1:=(HRT.out.gr GQ.out).c1
     by_cases hql:q<Ls.length
     ·obtain ⟨g,off,rfl,hg,c0,c1,c2,c3⟩:=(HRT.out.gr GQ.out).l.lk.rowAt.lnk (j:=q) hql
      have hq1:=(HQL.out _ (lnat_mem hql)).1
      by_cases hz:(lnat Ls q).q.length=0
      ·have HZ2:Hid (∀ j,j<q+1→(lnat Ls j).q.length=0):=fun j hj=>by
        by_cases hjq:j<q
        ·exact HZ.out j hjq
        ·obtain rfl:j=q:=by omega
         exact hz
       rw [hz] at c2
       clear hz hq1 HZ
       generalize lnat Ls q=l at *
       go_wp2_with fail
       exact ⟨⟨q+1,hql,by simp,Or.inl ⟨rfl,rfl,GQ,HZ2⟩⟩,measM_dec _ _ hql⟩
      ·have hz1:0<(lnat Ls q).q.length:=by omega
       have HFS:=Hid.mk' (HRV.out.first hql HZ.out hz1)
       have e:=alat HRV.out.lk hql
       obtain ⟨_,hadj,hf1,hf2,h5,_⟩:=linksOf_at e
       simp only [Rln.av] at hadj hf1 hf2 h5
       obtain ⟨m,rs,hqq⟩:∃ m rs,s'.q (lnat Ls q).fr (lnat Ls q).to=m::rs:=by
        cases hq9:s'.q (lnat Ls q).fr (lnat Ls q).to with
        | nil =>
         rw [hq9] at h5
         have:=congrArg List.length h5
         rw [List.length_map] at this
         simp at this
         rw [this] at hz1;simp at hz1
        | cons m rs=>exact ⟨m,rs,rfl⟩
       obtain ⟨k',hk',g'⟩:=G2.out.step HS.out hadj hqq
       obtain ⟨ne',hne⟩:=nstep_noEv (adj:=T.adj) E2.out hqq
       rw [hrs_same hne] at g'
       have hkk:0<((lnat Ls q).q.length:Int):=by omega
       have ST:=Hid.mk' (rStep_f A C T R' wr.drew cs s' (lnat Ls q).fr (lnat Ls q).to m rs (T2.out.gr GQ.out.drew) hf1 hf2 hadj hqq hne (G2.out.I.srt _) SM2.out (Nat.le_trans (g'.len _) HK.out))
       have DRN:Hid (drn T (c+1) (s,cs)=some (s'.nstep cov T.adj mat (lnat Ls q).fr (lnat Ls q).to m,cs)):=by
        show _=_
        rw [drn,RN.out]
        show dstep T (s',cs)=_
        unfold dstep
        rw [HFS.out]
        simp only [hqq]
        rw [hrs_same hne]
       have G3:=Hid.mk' g'
       have N3:=Hid.mk' ne'
       have K3:=Hid.mk' hk'
       have FQ:=Hid.mk' (F2.out.trans (Fr.gr GQ.out.drew))
       have hcc:c+1≤4611686018427387904:=by omega
       clear e hadj hf1 hf2 h5 hqq g' hne ne' hk' HFS hz hz1 HZ
       generalize lnat Ls q=l at *
       have q0:(0:Int)≤(q:Int):=by omega
       have ql:(q:Int)<(Ls.length:Int):=by omega
       go_wp2_with fail
       refine region_D rfl 17 (by rfl) (fun i=>30+i) (fun i _ j _ h=>by omega) (Rdr C.TB g off Ls.length lc q l.fr l.to) (Ef0 _ 30 17) (fun w'=>w'=wr.drew) (fun _ wa wb=>wb=wa) (fun a i x hi h=>Ef0.put (by simp) a i x hi h) (fun a h i hi=>by have:=h.sz (by simp);simp at this;omega) (fun i wa wb h g=>g.trans h) (fun i j x wa wb _ h _=>Rdr.st j x wa wb h) ?front ?last (Ef0.start _ 30 17 (by simp)) rfl
       case front =>
        intro i o a' wz ho hi' hE hW hd K hK
        have t0:a'.tmps[0]?.getD undef = .pointer (some ⟨C.TB,0,none⟩):=(evn a' 0).symm.trans (hE.at_ (by simp) (by omega))
        have t5:a'.tmps[5]?.getD undef = .int .i64 q:=(evn a' 5).symm.trans (hE.at_ (by simp) (by omega))
        have z1:wz.cell? ⟨C.TB,1,none⟩=some (.slice (some ⟨g,off,none⟩) Ls.length lc):=by rw [hW];exact t1
        have z2:wz.cell? ⟨g,off+q*4,none⟩=some (.int .i64 l.fr):=by rw [hW];exact c0
        have z3:wz.cell? ⟨g,off+q*4+1,none⟩=some (.int .i64 l.to):=by rw [hW];exact c1
        clear hE hW
        match i,ho,hi',hd,hK with
        | 0,ho,_,hd,hK =>
         obtain rfl:=Option.some.inj ho
         clear hd
         unfold Oper.wp
         go_simp
         exact hK _ _ rfl rfl
        | 1,ho,_,hd,hK =>
         obtain rfl:=Option.some.inj ho
         clear hd
         unfold Oper.wp
         go_simp
         exact hK _ _ rfl rfl
        | 2,ho,_,hd,hK =>
         obtain rfl:=Option.some.inj ho
         have e0:a'.eval (.tmp 31) = .pointer (some ⟨C.TB,0,none⟩):=hd ⟨1,.data⟩ (by simp) rfl
         rw [evn] at e0
         clear hd
         unfold Oper.wp
         go_simp
         exact hK _ _ rfl rfl
        | 3,ho,_,hd,hK =>
         obtain rfl:=Option.some.inj ho
         have e0:a'.eval (.tmp 32) = .pointer (some ⟨C.TB,0,none⟩):=hd ⟨2,.data⟩ (by simp) rfl
         rw [evn] at e0
         clear hd
         unfold Oper.wp
         go_simp
         exact hK _ _ rfl rfl
        | 4,ho,_,hd,hK =>
         obtain rfl:=Option.some.inj ho
         have e0:a'.eval (.tmp 33) = .pointer (some ⟨C.TB,1,none⟩):=hd ⟨3,.data⟩ (by simp) rfl
         rw [evn] at e0
         clear hd
         unfold Oper.wp
         go_simp
         exact hK _ _ rfl rfl
        | 5,ho,_,hd,hK =>
         obtain rfl:=Option.some.inj ho
         clear hd
         unfold Oper.wp
         go_simp
         exact hK _ _ rfl rfl
        | 6,ho,_,hd,hK =>
         obtain rfl:=Option.some.inj ho
         have e0:a'.eval (.tmp 34) = .slice (some ⟨g,off,none⟩) Ls.length lc:=hd ⟨4,.data⟩ (by simp) rfl
         have e1:a'.eval (.tmp 35) = .int .i64 q:=hd ⟨5,.data⟩ (by simp) rfl
         rw [evn] at e0 e1
         clear hd
         unfold Oper.wp
         go_simp
         exact hK _ _ rfl rfl
        | 7,ho,_,hd,hK =>
         obtain rfl:=Option.some.inj ho
         have e0:a'.eval (.tmp 36) = .pointer (some ⟨g,off+q*4,none⟩):=hd ⟨6,.data⟩ (by simp) rfl
         rw [evn] at e0
         clear hd
         unfold Oper.wp
         go_simp
         exact hK _ _ rfl rfl
        | 8,ho,_,hd,hK =>
         obtain rfl:=Option.some.inj ho
         have e0:a'.eval (.tmp 37) = .pointer (some ⟨g,off+q*4,none⟩):=hd ⟨7,.data⟩ (by simp) rfl
         rw [evn] at e0
         clear hd
         unfold Oper.wp
         go_simp
         exact hK _ _ rfl rfl
        | 9,ho,_,hd,hK =>
         obtain rfl:=Option.some.inj ho
         clear hd
         unfold Oper.wp
         go_simp
         exact hK _ _ rfl rfl
        | 10,ho,_,hd,hK =>
         obtain rfl:=Option.some.inj ho
         have e0:a'.eval (.tmp 39) = .pointer (some ⟨C.TB,0,none⟩):=hd ⟨9,.data⟩ (by simp) rfl
         rw [evn] at e0
         clear hd
         unfold Oper.wp
         go_simp
         exact hK _ _ rfl rfl
        | 11,ho,_,hd,hK =>
         obtain rfl:=Option.some.inj ho
         have e0:a'.eval (.tmp 40) = .pointer (some ⟨C.TB,0,none⟩):=hd ⟨10,.data⟩ (by simp) rfl
         rw [evn] at e0
         clear hd
         unfold Oper.wp
         go_simp
         exact hK _ _ rfl rfl
        | 12,ho,_,hd,hK =>
         obtain rfl:=Option.some.inj ho
         have e0:a'.eval (.tmp 41) = .pointer (some ⟨C.TB,1,none⟩):=hd ⟨11,.data⟩ (by simp) rfl
         rw [evn] at e0
         clear hd
         unfold Oper.wp
         go_simp
         exact hK _ _ rfl rfl
        | 13,ho,_,hd,hK =>
         obtain rfl:=Option.some.inj ho
         clear hd
         unfold Oper.wp
         go_simp
         exact hK _ _ rfl rfl
        | 14,ho,_,hd,hK =>
         obtain rfl:=Option.some.inj ho
         have e0:a'.eval (.tmp 42) = .slice (some ⟨g,off,none⟩) Ls.length lc:=hd ⟨12,.data⟩ (by simp) rfl
         have e1:a'.eval (.tmp 43) = .int .i64 q:=hd ⟨13,.data⟩ (by simp) rfl
         rw [evn] at e0 e1
         clear hd
         unfold Oper.wp
         go_simp
         exact hK _ _ rfl rfl
        | 15,ho,_,hd,hK =>
         obtain rfl:=Option.some.inj ho
         have e0:a'.eval (.tmp 44) = .pointer (some ⟨g,off+q*4,none⟩):=hd ⟨14,.data⟩ (by simp) rfl
         rw [evn] at e0
         clear hd
         unfold Oper.wp
         go_simp
         exact hK _ _ rfl rfl
        | 16,ho,_,hd,hK =>
         obtain rfl:=Option.some.inj ho
         have e0:a'.eval (.tmp 45) = .pointer (some ⟨g,off+q*4+1,none⟩):=hd ⟨15,.data⟩ (by simp) rfl
         rw [evn] at e0
         clear hd
         unfold Oper.wp
         go_simp
         exact hK _ _ rfl rfl
        | k'+17,_,hi',_,_=>exact absurd hi' (by omega)
       case last =>
        intro o a' wz ho hE hW hd K hK
        obtain rfl:=Option.some.inj ho
        have e0:a'.eval (.tmp 30) = .pointer (some ⟨C.TB,0,none⟩):=hd 0 (by omega)
        have e8:a'.eval (.tmp 38) = .int .i64 l.fr:=hd 8 (by omega)
        have e16:a'.eval (.tmp 46) = .int .i64 l.to:=hd 16 (by omega)
        have hdf:=hE.df
        obtain ⟨z,hz,hts⟩:=hE.ts
        have HTS:=Hid.mk' (And.intro hz (And.intro hts hdf))
        clear hz hts hdf hd hE ho
        subst hW
        rw [evn] at e0 e8 e16
        clear t1 c0 c1 c2 c3
        unfold Oper.wp
        go_simp
        refine ST.out.mono ?_
        rintro e w4 ⟨rfl,R4,z1,z2⟩
        have FIN:Hid (DrF A C T R w cs s nxt rank home Ks M kk c w4):=⟨_,R4,k',K3.out,G3.out,DRN.out,z1,N3.out,FQ.out.trans z2⟩
        clear ST z1 z2 G3 DRN N3 FQ e0 e8 e16
        go_simp
        refine hK _ _ ?_
        clear hK
        obtain ⟨hz,hts,hdf⟩:=HTS.out
        obtain ⟨z0,z1',z2',z3',z4,z5,z6,z7,z8,z9,z10,z11,z12,z13,z14,z15,z16,rfl⟩:=len17 hz
        obtain ⟨tm,df⟩:=a'
        simp only at hts hdf
        subst hts hdf
        clear hz HTS
        simp only [List.take_succ_cons,List.take_zero,List.drop_succ_cons,List.drop_zero,List.cons_append,List.nil_append]
        go_wp2_with fail
        exact ⟨⟨q+1,hql,by simp,Or.inr ⟨rfl,rfl,FIN⟩⟩,measM_dec _ _ hql⟩
     ·have hqe:q=Ls.length:=by omega
      subst hqe
      have HD:=Hid.mk' (HRV.out.still HZ.out cs)
      have T3:=Hid.mk' (T2.out.gr GQ.out)
      have F3:=Hid.mk' (F2.out.trans (Fr.gr GQ.out))
      go_wp2_with fail
      go_roundg (2*kk)
      case measure=>simp
      case rel=>exact ⟨c,s',R',kk,false,rfl,rfl,by simp,hck,G2,RN,T3,E2,F3,fun _=>HD.out⟩
    ·obtain ⟨la',n',lc',t1,hn'⟩:∃ la n lc,wr.cell? ⟨C.TB,1,none⟩=some (.slice la n lc)∧n≤64:=by
      obtain ⟨_,_,_,_,_,_,h4,_⟩:=FD.out
      exact h4.c1
     by_cases hq2:q<n'
     all_goals
      go_wp2_with fail
      obtain ⟨s3,R3,k3,h1,h2,h3,h4,h5,h6⟩:=FD.out
      go_roundg (2*k3+1)
      case measure=>simp;omega
      case rel=>exact ⟨c+1,s3,R3,k3,true,by simp,rfl,by simp,by omega,h2,h3,h4,h5,h6,fun h=>by cases h⟩
def cntN (X:List Hm):Nat:=(X.filter fun x=>decide (x.1.fr<0)).length
theorem cntN_succ (X:List Hm) (q:Nat) (h:q<X.length):cntN (X.take (q+1))=cntN (X.take q)+(if (hat X q).1.fr<0 then 1 else 0):=by
 unfold cntN
 rw [takeM_snoc X q h,List.filter_append,List.length_append]
 by_cases hk:(hat X q).1.fr<0 <;> simp [hk]
theorem cntN_le (X:List Hm) (q:Nat):cntN (X.take q)≤X.length:=by
 unfold cntN
 exact Nat.le_trans (List.length_filter_le _ _) (List.length_take_le' q X)
def subCode (T:Tc) (s:Ts) (b:Nat) (k:Ky) (f:List Wnt):Int:=if filterOk f=true then (if hasK (s.held b) k=true then 6 else if 63<nCl T s then 7 else 0) else 2
def RsP (A:Nat→Prop) (C:Rc) (T:Tc) (R:Nat→Rl) (w:World) (cs:List (Pc (List Atr))) (s:Ts) (b:Nat) (k:Ky) (f:List Wnt) (code:Int) (e:Ending) (w':World):Prop :=
 e = .returned (.int .i64 code) ∧ ∃ R',Fr R R' w w'∧((code≠0∧Rw A C T R' w' cs s)∨(code=0∧Rw A C T R' w' cs (s.turn cov T.adj b (ins ⟨k,f,-1⟩ (s.held b)))))
theorem Rv.hasM {T:Tc} {Xs:Nat→List Hm} {Ls:List Rln} {s:Ts} (h:Rv T Xs Ls s) {b:Nat} (hb:b<T.nb) (k:Ky):((Xs b).any fun x=>x.1.key==k)=hasK (s.held b) k:=by
 rw [← h.held b hb]
 simp [hasK,List.any_map,Function.comp_def]
theorem Rv.ncl {T:Tc} {Xs:Nat→List Hm} {Ls:List Rln} {s:Ts} (h:Rv T Xs Ls s) (hf:∀ b,b<T.nb → ∀ x∈s.held b,x.fr = -1∨0≤x.fr):(sm T.nb fun b=>cntN (Xs b))=nCl T s:=by
 unfold nCl
 refine sm_cong T.nb fun b hb=>?_
 rw [← h.held b hb]
 unfold cntN
 rw [List.filter_map,List.length_map]
 congr 1
 refine List.filter_congr fun x hx=>?_
 have:=hf b hb x.1 (by rw [← h.held b hb];exact List.mem_map_of_mem hx)
 rw [Bool.eq_iff_iff]
 simp only [Function.comp_def,decide_eq_true_eq,beq_iff_eq]
 omega
set_option maxRecDepth 100000 in
set_option maxHeartbeats 4000000 in
theorem rSub_t (A:Nat→Prop) (C:Rc) (T:Tc) (R:Nat→Rl) (w:World) (cs:List (Pc (List Atr))) (s:Ts) (c:Pc (List Atr)) (id:Int) (f:List Wnt) (ad:Option Addr) (cap:Nat)
  (hT:Rw A C T R w cs s) (hc:c∈cs) (huni:cs.Pairwise fun x y=>x.num≠y.num) (hcl:cs.length≤16) (hatc:c.at'<T.nb) (hl:f.length≤maxLen) (hf:FiAt w ad f) (hwf:∀ y∈f,Wnt.Wf y) (hA:filterOk f=true→FiO A w ad f)
  (hs:∀ b,b<T.nb→Srt (s.held b)) (hm:Sm T s) (hm':(ins ⟨(c.num,id),f,-1⟩ (s.held c.at')).length≤1048576) (hfr:∀ b,b<T.nb → ∀ x∈s.held b,x.fr = -1∨0≤x.fr) :
  Calls Tryz.prog 61 #[.pointer (some ⟨C.TB,0,none⟩),.int .i64 c.num,.int .i64 id,.slice ad f.length cap] w fun e w'=>RsP A C T R w cs s c.at' (c.num,id) f (subCode T s c.at' (c.num,id) f) e w':=by
 obtain ⟨ads,Xs,lv,Ls,cv,rc,rt,hnb,rv,hcs⟩:=hT
 have hnb8:=rt.b.nb8
 have hrl:rc.length≤16:=by
  have:=congrArg List.length hcs
  rw [List.length_map] at this
  omega
 obtain ⟨ca,cc,rfl⟩:=rt.k.cl.shape
 have CL:=Hid.mk' (client_row C.TB ca cc rc c.num w rt.c2 rt.k.cl.rowAt hrl)
 have CK:=Hid.mk' (fun W (g:Gr w W)=>refCheck_ad f ad cap W hl (hf.gr g) hwf)
 have HRT:=Hid.mk' rt
 have HRV:=Hid.mk' rv
 have HCS:=Hid.mk' hcs
 have HM:=Hid.mk' hm
 have HM':=Hid.mk' hm'
 have HS:=Hid.mk' hs
 have HA:=Hid.mk' hA
 have HFR:=Hid.mk' hfr
 have HJ:Hid (∀ j,j<rc.length→(kat rc j).num=c.num→(kat rc j).at'=c.at'):=fun j hj hn=>by
  have hm1:pcR (kat rc j)∈cs:=by rw [← hcs];exact List.mem_map_of_mem (kat_mem hj)
  have e:pcR (kat rc j)=c:=by
   refine Classical.byContradiction fun hne=>?_
   obtain ⟨i1,h1,e1⟩:=List.getElem_of_mem hm1
   obtain ⟨i2,h2,e2⟩:=List.getElem_of_mem hc
   have pw:=List.pairwise_iff_getElem.1 huni
   have hn':(pcR (kat rc j)).num=c.num:=hn
   rcases Nat.lt_trichotomy i1 i2 with hlt | hlt | hlt
   ·exact pw i1 i2 h1 h2 hlt (by rw [e1,e2];exact hn')
   ·subst hlt;exact hne (e1.symm.trans e2)
   ·exact pw i2 i1 h2 h1 hlt (by rw [e1,e2];exact hn'.symm)
  rw [← e];rfl
 have HNO:Hid (∀ x∈rc,x.num≠c.num→True):=fun _ _ _=>trivial
 have HIN:Hid (¬ ∀ x∈rc,x.num≠c.num):=fun h=>by
  rw [← hcs] at hc
  obtain ⟨x,hx,rfl⟩:=List.mem_map.1 hc
  exact h x hx rfl
 clear rt rv hcs hm hm' hs hA hfr hc huni HNO
 go_enter Tryz.func61,Tryz.ntmps61
 go_wp2_with fail
 refine CL.out.mono ?_
 rintro e w1 ⟨hcase,hw⟩
 subst hw
 rcases hcase with ⟨j,hj,hk,rfl⟩ | ⟨hno,rfl⟩
 ·have hat2:=HJ.out j hj hk
  have HKN:=Hid.mk' (And.intro hk hat2)
  have CK1:=Hid.mk' (CK.out _ (Gr.refl _))
  clear CL CK hk hat2
  go_wp2_with fail
  refine CK1.out.mono ?_
  rintro e w2 ⟨rfl,g2⟩
  have G2:=Hid.mk' g2
  clear CK1 g2
  cases hok:filterOk f with
  | false =>
   have hchk:chk f=2:=by simp [chk,hok]
   have HSC:Hid (subCode T s c.at' (c.num,id) f=2):=by show _=_;simp [subCode,hok]
   rw [hchk]
   go_wp2_with fail
   go_ret
   refine ⟨by rw [HSC.out];rfl,R,Fr.gr G2.out,Or.inl ⟨by rw [HSC.out];decide,ads,Xs,_,Ls,_,rc,HRT.out.gr G2.out,hnb,HRV.out,HCS.out⟩⟩
  | true =>
   have hchk:chk f=0:=by simp [chk,hok]
   rw [hchk]
   have FA:=Hid.mk' (HA.out hok)
   have hatb:(kat rc j).at'<C.nb:=by have:=HKN.out.2;omega
   have hXl:(Xs (kat rc j).at').length≤1048576:=by
    have e:=congrArg List.length (HRV.out.held (kat rc j).at' (by omega))
    rw [List.length_map] at e
    rw [e];exact HM.out.h _ (by omega)
   have rt2:=HRT.out.gr G2.out
   have HAS:=Hid.mk' (has_row C.TB C.HB C.nb C.hcap ca cc rc j hj (ads (kat rc j).at').1 (ads (kat rc j).at').2 (Xs (kat rc j).at') id w2 rt2.c0 rt2.c2 rt2.tlt rt2.k.cl.rowAt hatb (rt2.hbc hatb) (rt2.h.row _ hatb).at' hXl)
   clear rt2
   go_wp2_with fail
   refine HAS.out.mono ?_
   rintro e w3 ⟨rfl,g3⟩
   have G3:=Hid.mk' (Gr.call G2.out g3)
   clear g3 HAS G2
   rw [HKN.out.1,HKN.out.2,HRV.out.hasM (by omega) (c.num,id)]
   cases hhas:hasK (s.held c.at') (c.num,id) with
   | true =>
    have HSC:Hid (subCode T s c.at' (c.num,id) f=6):=by show _=_;simp [subCode,hok,hhas]
    go_wp2_with fail
    go_ret
    refine ⟨by rw [HSC.out];rfl,R,Fr.gr G3.out,Or.inl ⟨by rw [HSC.out];decide,ads,Xs,_,Ls,_,rc,HRT.out.gr G3.out,hnb,HRV.out,HCS.out⟩⟩
   | false =>
    have t0:=(HRT.out.gr G3.out).c0
    have HXL:Hid (∀ b,b<C.nb→(Xs b).length≤1048576):=fun b hb=>by
     have e:=congrArg List.length (HRV.out.held b (by omega))
     rw [List.length_map] at e
     rw [e];exact HM.out.h _ (by omega)
    have HCN:Hid (∀ b,b<C.nb→cntN (Xs b)≤1048576):=fun b hb=>Nat.le_trans (List.length_filter_le _ _) (HXL.out b hb)
    go_wp2_with fail
    go_loopw [11,12] (fun v i wr=>∃ q:Nat,q≤C.nb∧i = .int .i64 q∧v = .int .i64 ((sm q fun b=>cntN (Xs b):Nat):Int)∧Hid (Gr w1 wr)) (fun _ i _=>C.nb - (intOf i).toNat)
    case atStart=>exact ⟨0,Nat.zero_le _,rfl,rfl,G3⟩
    case round =>
     obtain ⟨q,hq,rfl,rfl,G⟩:=hrel
     clear t0
     have t0:=(HRT.out.gr G.out).c0
     by_cases hql:q<C.nb
     ·have th:=(HRT.out.gr G.out).hbc hql
      have hsum:(sm q fun b=>cntN (Xs b))≤q*1048576:=by
       rw [← sm_const 1048576 q]
       exact sm_le q (fun i hi=>HCN.out i (by omega))
      have HN:Hid ((sm (q+1) fun b=>cntN (Xs b))=(sm q fun b=>cntN (Xs b))+cntN (Xs q)):=rfl
      have hXq:=HXL.out q hql
      generalize (sm q fun b=>cntN (Xs b))=t at *
      go_wp2_with fail
      clear t0 th
      go_loopw [11,13] (fun v i wr=>∃ p:Nat,p≤(Xs q).length∧i = .int .i64 p∧v = .int .i64 ((t+cntN ((Xs q).take p):Nat):Int)∧Hid (Gr w1 wr)) (fun _ i _=>(Xs q).length - (intOf i).toNat)
      case atStart=>exact ⟨0,Nat.zero_le _,rfl,by simp [cntN],G⟩
      case round =>
       clear G
       obtain ⟨p,hp,rfl,rfl,G⟩:=hrel
       have t0:=(HRT.out.gr G.out).c0
       have th:=(HRT.out.gr G.out).hbc hql
       by_cases hpl:p<(Xs q).length
       ·obtain ⟨b',off,had,hb',d0,d1,d2,d3⟩:=((HRT.out.gr G.out).h.row q hql).at'.hold hpl
        rw [had] at th
        have HSU:=Hid.mk' (cntN_succ (Xs q) p hpl)
        have hle:=cntN_le (Xs q) p
        generalize hat (Xs q) p=x at *
        by_cases e1:x.1.fr<0
        ·have HR:Hid (t+cntN ((Xs q).take (p+1))=t+cntN ((Xs q).take p)+1):=by show _=_;rw [HSU.out,if_pos e1];omega
         generalize cntN ((Xs q).take p)=u at *
         go_wp2_with fail
         exact ⟨⟨p+1,hpl,by simp,by rw [HR.out];go_num,G⟩,measM_dec _ _ hpl⟩
        ·have HR:Hid (t+cntN ((Xs q).take (p+1))=t+cntN ((Xs q).take p)):=by show _=_;rw [HSU.out,if_neg e1];rfl
         generalize cntN ((Xs q).take p)=u at *
         go_wp2_with fail
         exact ⟨⟨p+1,hpl,by simp,by rw [HR.out],G⟩,measM_dec _ _ hpl⟩
       ·have hpe:p=(Xs q).length:=by omega
        subst hpe
        rw [List.take_length]
        go_wp2_with fail
        exact ⟨⟨q+1,hql,by simp,by rw [HN.out],G⟩,measM_dec _ _ hql⟩
     ·have hqe:q=C.nb:=by omega
      subst hqe
      have e0:(sm C.nb fun b=>cntN (Xs b))=nCl T s:=by rw [hnb];exact HRV.out.ncl HFR.out
      have hsum:(sm C.nb fun b=>cntN (Xs b))≤C.nb*1048576:=by
       rw [← sm_const 1048576 C.nb]
       exact sm_le C.nb (fun i hi=>HCN.out i (by omega))
      rw [e0] at hsum ⊢
      by_cases hfull:63<nCl T s
      ·have HSC:Hid (subCode T s c.at' (c.num,id) f=7):=by show _=_;simp [subCode,hok,hhas,hfull]
       have hfull':(63:Int)<(nCl T s:Int):=by omega
       go_wp2_with fail
       go_ret
       refine ⟨by rw [HSC.out];rfl,R,Fr.gr G.out,Or.inl ⟨by rw [HSC.out];decide,ads,Xs,_,Ls,_,rc,HRT.out.gr G.out,hnb,HRV.out,HCS.out⟩⟩
      ·have HSC:Hid (subCode T s c.at' (c.num,id) f=0):=by show _=_;simp [subCode,hok,hhas,hfull]
       have hfull':¬ (63:Int)<(nCl T s:Int):=by omega
       have t2:=(HRT.out.gr G.out).c2
       obtain ⟨cb,coff,rfl,hcb,k0,k1,_⟩:=(HRT.out.gr G.out).k.cl.rowAt.clt hj
       rw [HKN.out.2] at k1
       have FA2:=Hid.mk' (FA.out.keep G.out.size (fun k hk _=>G.out.block k hk))
       have hbC:c.at'<C.nb:=by omega
       have PU:=Hid.mk' (rPut (HRT.out.gr G.out) hbC (⟨(c.num,id),f,-1⟩,ad,cap) FA2.out (HXL.out _ hbC) (srm_of (HRV.out.held _ hatc) (HS.out _ hatc)))
       have HXE:=Hid.mk' ((pE_ins (⟨(c.num,id),f,-1⟩,ad,cap) (Xs c.at')).trans (by rw [HRV.out.held _ hatc]))
       have HXM:Hid ((pE (⟨(c.num,id),f,-1⟩,ad,cap) (Xs c.at')).length≤1048576):=by
        have e:=congrArg List.length HXE.out
        rw [List.length_map] at e
        show _≤_
        rw [e];exact HM'.out
       have hn64:=HRV.out.n64 (by omega)
       go_wp2_with fail
       refine PU.out.mono ?_
       rintro e w4 ⟨rfl,R4,ads4,rt4,fr4⟩
       have CH:=Hid.mk' (changed_row A C R4 w4 ads4 _ _ _ _ rc rt4 c.at' hbC (by simp only [if_true];exact HXM.out) (HRV.out.qlen HM.out) hn64)
       have F4:=Hid.mk' ((Fr.gr G.out).trans fr4)
       clear rt4 fr4 PU t0 t2 k0 k1
       go_wp2_with fail
       refine CH.out.mono ?_
       rintro e w5 ⟨rfl,R5,L5,rt5,fr5,hm5⟩
       simp only [if_true] at hm5
       have FIN:Hid (∃ R',Fr R R' w1 w5∧Rw A C T R' w5 cs (s.turn cov T.adj c.at' (ins ⟨(c.num,id),f,-1⟩ (s.held c.at')))):=⟨R5,F4.out.trans fr5,ads4,_,_,L5,_,rc,rt5,hnb,HRV.out.turn c.at' (pE (⟨(c.num,id),f,-1⟩,ad,cap) (Xs c.at')) _ HXE.out hm5,HCS.out⟩
       clear rt5 fr5 hm5 CH
       go_wp2_with fail
       go_ret
       obtain ⟨R',f1,f2⟩:=FIN.out
       exact ⟨by rw [HSC.out];rfl,R',f1,Or.inr ⟨HSC.out,f2⟩⟩
 ·exact absurd hno HIN.out
def RuP (A:Nat→Prop) (C:Rc) (T:Tc) (R:Nat→Rl) (w:World) (cs:List (Pc (List Atr))) (s:Ts) (b:Nat) (k:Ky) (e:Ending) (w':World):Prop :=
 ∃ R',Fr R R' w w'∧((hasK (s.held b) k=false∧e = .returned (.int .i64 5)∧Rw A C T R' w' cs s)∨(hasK (s.held b) k=true∧e = .returned (.int .i64 0)∧Rw A C T R' w' cs (s.turn cov T.adj b (del k (s.held b)))))
set_option maxRecDepth 100000 in
set_option maxHeartbeats 4000000 in
theorem rUns_t (A:Nat→Prop) (C:Rc) (T:Tc) (R:Nat→Rl) (w:World) (cs:List (Pc (List Atr))) (s:Ts) (c:Pc (List Atr)) (id:Int)
  (hT:Rw A C T R w cs s) (hc:c∈cs) (huni:cs.Pairwise fun x y=>x.num≠y.num) (hcl:cs.length≤16) (hatc:c.at'<T.nb) (hm:Sm T s) :
  Calls Tryz.prog 62 #[.pointer (some ⟨C.TB,0,none⟩),.int .i64 c.num,.int .i64 id] w fun e w'=>RuP A C T R w cs s c.at' (c.num,id) e w':=by
 obtain ⟨ads,Xs,lv,Ls,cv,rc,rt,hnb,rv,hcs⟩:=hT
 have hnb8:=rt.b.nb8
 have hrl:rc.length≤16:=by
  have:=congrArg List.length hcs
  rw [List.length_map] at this
  omega
 obtain ⟨ca,cc,rfl⟩:=rt.k.cl.shape
 have CL:=Hid.mk' (client_row C.TB ca cc rc c.num w rt.c2 rt.k.cl.rowAt hrl)
 have HRT:=Hid.mk' rt
 have HRV:=Hid.mk' rv
 have HCS:=Hid.mk' hcs
 have HM:=Hid.mk' hm
 have HJ:Hid (∀ j,j<rc.length→(kat rc j).num=c.num→(kat rc j).at'=c.at'):=fun j hj hn=>by
  have hm1:pcR (kat rc j)∈cs:=by rw [← hcs];exact List.mem_map_of_mem (kat_mem hj)
  have e:pcR (kat rc j)=c:=by
   refine Classical.byContradiction fun hne=>?_
   obtain ⟨i1,h1,e1⟩:=List.getElem_of_mem hm1
   obtain ⟨i2,h2,e2⟩:=List.getElem_of_mem hc
   have pw:=List.pairwise_iff_getElem.1 huni
   have hn':(pcR (kat rc j)).num=c.num:=hn
   rcases Nat.lt_trichotomy i1 i2 with hlt | hlt | hlt
   ·exact pw i1 i2 h1 h2 hlt (by rw [e1,e2];exact hn')
   ·subst hlt;exact hne (e1.symm.trans e2)
   ·exact pw i2 i1 h2 h1 hlt (by rw [e1,e2];exact hn'.symm)
  rw [← e];rfl
 have HIN:Hid (¬ ∀ x∈rc,x.num≠c.num):=fun h=>by
  rw [← hcs] at hc
  obtain ⟨x,hx,rfl⟩:=List.mem_map.1 hc
  exact h x hx rfl
 clear rt rv hcs hm hc huni
 go_enter Tryz.func62,Tryz.ntmps62
 go_wp2_with fail
 refine CL.out.mono ?_
 rintro e w1 ⟨hcase,hw⟩
 subst hw
 rcases hcase with ⟨j,hj,hk,rfl⟩ | ⟨hno,rfl⟩
 ·have hat2:=HJ.out j hj hk
  have HKN:=Hid.mk' (And.intro hk hat2)
  clear CL hk hat2
  have hatb:(kat rc j).at'<C.nb:=by have:=HKN.out.2;omega
  have HXL:Hid (∀ b,b<C.nb→(Xs b).length≤1048576):=fun b hb=>by
   have e:=congrArg List.length (HRV.out.held b (by omega))
   rw [List.length_map] at e
   rw [e];exact HM.out.h _ (by omega)
  have HAS:=Hid.mk' (has_row C.TB C.HB C.nb C.hcap ca cc rc j hj (ads (kat rc j).at').1 (ads (kat rc j).at').2 (Xs (kat rc j).at') id w1 HRT.out.c0 HRT.out.c2 HRT.out.tlt HRT.out.k.cl.rowAt hatb (HRT.out.hbc hatb) (HRT.out.h.row _ hatb).at' (HXL.out _ hatb))
  go_wp2_with fail
  refine HAS.out.mono ?_
  rintro e w3 ⟨rfl,g3⟩
  have G:=Hid.mk' g3
  clear g3 HAS
  rw [HKN.out.1,HKN.out.2,HRV.out.hasM (by omega) (c.num,id)]
  cases hhas:hasK (s.held c.at') (c.num,id) with
  | false =>
   have HH:=Hid.mk' hhas
   go_wp2_with fail
   go_ret
   exact ⟨R,Fr.gr G.out,Or.inl ⟨HH.out,rfl,ads,Xs,_,Ls,_,rc,HRT.out.gr G.out,hnb,HRV.out,HCS.out⟩⟩
  | true =>
   have HH:=Hid.mk' hhas
   have t2:=(HRT.out.gr G.out).c2
   obtain ⟨cb,coff,rfl,hcb,k0,k1,_⟩:=(HRT.out.gr G.out).k.cl.rowAt.clt hj
   rw [HKN.out.2] at k1
   have hbC:c.at'<C.nb:=by omega
   have PU:=Hid.mk' (rDrop (HRT.out.gr G.out) hbC (c.num,id) (HXL.out _ hbC))
   have HXE:Hid ((delM (c.num,id) (Xs c.at')).map (·.1)=del (c.num,id) (s.held c.at')):=by show _=_;rw [delM_del,HRV.out.held _ hatc]
   have HXM:Hid ((delM (c.num,id) (Xs c.at')).length≤1048576):=Nat.le_trans (List.length_filter_le _ _) (HXL.out _ hbC)
   have hn64:=HRV.out.n64 (by omega)
   go_wp2_with fail
   refine PU.out.mono ?_
   rintro e w4 ⟨rfl,R4,ads4,rt4,fr4⟩
   have CH:=Hid.mk' (changed_row A C R4 w4 ads4 _ _ _ _ rc rt4 c.at' hbC (by simp only [if_true];exact HXM.out) (HRV.out.qlen HM.out) hn64)
   have F4:=Hid.mk' ((Fr.gr G.out).trans fr4)
   have t2':=rt4.c2
   obtain ⟨cb2,coff2,e9,hcb2,_,k1',_⟩:=rt4.k.cl.rowAt.clt hj
   injection e9 with e9
   injection e9 with e91 e92
   subst e91 e92
   rw [HKN.out.2] at k1'
   clear rt4 fr4 PU t2 k0 k1
   go_wp2_with fail
   refine CH.out.mono ?_
   rintro e w5 ⟨rfl,R5,L5,rt5,fr5,hm5⟩
   simp only [if_true] at hm5
   have FIN:Hid (∃ R',Fr R R' w1 w5∧Rw A C T R' w5 cs (s.turn cov T.adj c.at' (del (c.num,id) (s.held c.at')))):=⟨R5,F4.out.trans fr5,ads4,_,_,L5,_,rc,rt5,hnb,HRV.out.turn c.at' (delM (c.num,id) (Xs c.at')) _ HXE.out hm5,HCS.out⟩
   clear rt5 fr5 hm5 CH
   go_wp2_with fail
   go_ret
   obtain ⟨R',f1,f2⟩:=FIN.out
   exact ⟨R',f1,Or.inr ⟨HH.out,rfl,f2⟩⟩
 ·exact absurd hno HIN.out
end Go.Proofs.YtecnfgikbmcgoaaGreat
