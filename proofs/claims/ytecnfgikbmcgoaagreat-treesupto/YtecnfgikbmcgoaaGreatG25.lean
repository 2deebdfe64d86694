import Derived.Test.YtecnfgikbmcgoaaGreatG24
namespace Go.Proofs.YtecnfgikbmcgoaaGreat
open Go.RowKit
def y1 (l:Rln) (X:List Hm) (q:Nat):Al:=⟨l.fr,l.to,l.av.q++((newTo l.to X l.told q).map fun x=>Ms.sub x.1.key x.1.f),l.told⟩
def y2 (l:Rln) (X:List Hm) (q:Nat):Al:=⟨l.fr,l.to,l.av.q++((newTo l.to X l.told X.length).map fun x=>Ms.sub x.1.key x.1.f)++((goneTo (keysM (toldM l.to X)) l.told q).map fun k=>Ms.uns k),l.told⟩
theorem av_eq {l:Rln} {x:Al} (h:l.av=x):l.fr=x.fr∧l.to=x.to∧l.q.map Rms.ms=x.q∧l.told=x.told:=by subst h;exact ⟨rfl,rfl,rfl,rfl⟩
theorem setq_at {B:List Al} {k:Nat} {x y:Al} (h:B[k]? = some x):(B.set k y)[k]? = some y:=by
 obtain ⟨hk,_⟩:=List.getElem?_eq_some_iff.1 h
 rw [List.getElem?_set];simp [hk]
theorem set_idem (B:List Al) (k:Nat) (x y:Al):(B.set k x).set k y=B.set k y:=by rw [List.set_set]
theorem set_back {B:List Al} {k:Nat} {x:Al} (h:B[k]? = some x):B.set k x=B:=by
 obtain ⟨hk,e⟩:=List.getElem?_eq_some_iff.1 h
 rw [← e,List.set_getElem_self]
theorem CSt.was {A:Nat→Prop} {C:Rc} {R0:Nat→Rl} {w0 W:World} {ads:Nat→Option Addr × Nat} {Xs:Nat→List Hm} {lv cv:Value} {Ls:List Rln} {cs:List Rcl} {k:Nat} {B:List Al} {v:Value} {K:List Ky} (h:CSt A C R0 w0 ads Xs lv cv cs Ls k B v K W) {ad:Option Addr} {xs:List Value} (ht:RowF R0 w0 ad xs):RowAt W ad xs:=by
 obtain ⟨R,L,_,f,_⟩:=h
 exact (ht.keep f.size (fun k hk hr=>f.keep k hk (Or.inr hr)) f.same).at'
theorem CSt.vown {A:Nat→Prop} {C:Rc} {R0:Nat→Rl} {w0 W:World} {ads:Nat→Option Addr × Nat} {Xs:Nat→List Hm} {lv cv:Value} {Ls:List Rln} {cs:List Rcl} {k:Nat} {B:List Al} {v:Value} {K:List Ky} (h:CSt A C R0 w0 ads Xs lv cv cs Ls k B v K W):(∀ i,v.ownBlock=some i→i<W.heap.size) ∧ ∃ P,Qr W 200 2 P v K.length (kcells K):=by
 obtain ⟨R,L,_,_,_,_,hq⟩:=h
 exact ⟨fun i hi=>(hq.own i hi).2,_,hq⟩
theorem Qr.ownTy {w:World} {e:TypeId} {size:Nat} {R:Nat→Prop} {v:Value} {n:Nat} {xs:List Value} (h:Qr w e size R v n xs) {i:Nat} (hi:v.ownBlock=some i) {cur:Array Value} {t:TypeId} (hc:w.heap[i]? = some (.cells cur t (0,0))):t=e:=by
 rcases h.2 with ⟨rfl,_⟩ | ⟨g,off,cap,cur',rfl,_,hg,_⟩
 ·simp [Value.ownBlock] at hi
 ·simp [Value.ownBlock] at hi
  subst hi
  rw [hg] at hc
  injection hc with hc
  injection hc with _ h2 _
  exact h2.symm
theorem keysM_snoc (L:List Hm) (x:Hm):keysM (L++[x])=keysM L++[x.1.key]:=by simp [keysM]
theorem CSt.nowAt {A:Nat→Prop} {C:Rc} {R0:Nat→Rl} {w0 W:World} {ads:Nat→Option Addr × Nat} {Xs:Nat→List Hm} {lv cv:Value} {Ls:List Rln} {cs:List Rcl} {k:Nat} {B:List Al} {va:Option Addr} {vk:Nat} {K:List Ky} (h:CSt A C R0 w0 ads Xs lv cv cs Ls k B (.slice va K.length vk) K W):RowAt W va (kcells K):=by
 obtain ⟨R,L,_,_,_,_,hq⟩:=h
 exact hq.rowAt
theorem CSt.look {A:Nat→Prop} {C:Rc} {R0:Nat→Rl} {w0 W:World} {ads:Nat→Option Addr × Nat} {Xs:Nat→List Hm} {cv:Value} {Ls:List Rln} {cs:List Rcl} {g off n lc k':Nat} {B:List Al} {v:Value} {K:List Ky} (h:CSt A C R0 w0 ads Xs (.slice (some ⟨g,off,none⟩) n lc) cv cs Ls k' B v K W) (hB:B.length=n) {k:Nat} {x:Al} (hx:B[k]? = some x) {b:Nat} (hb:b<C.nb) :
  W.cell? ⟨C.TB,0,none⟩=some (.slice (some ⟨C.HB,0,none⟩) C.nb C.hcap)∧W.cell? ⟨C.TB,1,none⟩=some (.slice (some ⟨g,off,none⟩) n lc)∧W.cell? ⟨C.HB,b,none⟩=some (.slice (ads b).1 (Xs b).length (ads b).2)∧W.cell? ⟨g,off+k*4,none⟩=some (.int .i64 (x.fr:Int))∧W.cell? ⟨g,off+k*4+1,none⟩=some (.int .i64 (x.to:Int))∧C.TB<W.heap.size∧C.HB<W.heap.size∧g<W.heap.size∧RowAt W (ads b).1 (hcells (Xs b)) ∧ ∀ y∈Xs b,FiM W y.2.1 y.1.f:=by
 obtain ⟨R,L,rt,_,hm,_,_⟩:=h
 have hLn:L.length=n:=by rw [← hB, ← hm,List.length_map]
 have hk:k<L.length:=by
  have:=(List.getElem?_eq_some_iff.1 hx).1
  omega
 have hlk:=rt.l.lk
 rw [hLn] at hlk
 obtain ⟨g',off',e,hg,c0,c1,_⟩:=hlk.rowAt.lnk (j:=k) hk
 injection e with e
 injection e with e1 e2
 subst e1 e2
 have hav:=alat hm hk
 rw [hx] at hav
 injection hav with hav
 subst hav
 exact ⟨rt.c0,rt.c1,rt.hbc hb,c0,c1,rt.tlt,rt.hlt,hg,(rt.h.row b hb).at',fun y hy=>(rt.h.fi b hb y hy).m⟩
set_option maxRecDepth 100000 in
set_option maxHeartbeats 4000000 in
theorem changed_row (A:Nat→Prop) (C:Rc) (R:Nat→Rl) (w:World) (ads:Nat→Option Addr × Nat) (Xs:Nat→List Hm) (lv cv:Value) (Ls:List Rln) (cs:List Rcl) (h:Rt A C R w ads Xs lv Ls cv cs) (b:Nat) (hb:b<C.nb) (hX:(Xs b).length≤1048576)
  (hq:∀ l∈Ls,l.q.length≤549755813888∧l.told.length≤1048576) (hn:Ls.length≤64) :
  Calls Tryz.prog 97 #[.pointer (some ⟨C.TB,0,none⟩),.int .i64 b] w fun e w'=>e = .returned (.tuple #[]) ∧ ∃ R' L',Rt A C R' w' ads Xs lv L' cv cs∧Fr R R' w w'∧L'.map Rln.av=Ls.map fun l=>chA b (Xs b) l.av:=by
 obtain ⟨i0,hi,hz0,hz1,hz2⟩:=info_parts Tryz.infoRMsg
 obtain ⟨j0,gi,gz0,gz1,gz2⟩:=info_parts Tryz.infoRKey
 have hnb:=h.b.nb8
 obtain ⟨la,lc,rfl⟩:=h.lshape
 have HR:=Hid.mk' h
 have HQ:=Hid.mk' hq
 have HA:=Hid.mk' h.b.aL
 have TD:Hid (∀ l∈Ls,RowF R w l.tad (kcells l.told)):=h.l.td
 have t1:=h.c1
 have S0:Hid (CSt A C R w ads Xs (.slice la Ls.length lc) cv cs Ls 0 (bK b (Xs b) (Ls.map Rln.av) 0) (.slice none 0 0) [] w):=⟨R,Ls,h,Fr.refl _ _,by rw [bK_zero],fun _ _=>rfl,Qr.nil _ _ _ _⟩
 have HBL:Hid (∀ k,(bK b (Xs b) (Ls.map Rln.av) k).length=Ls.length):=fun k=>by rw [bK_len,List.length_map]
 clear h hq
 generalize hXX:Xs b=X at *
 go_enter Tryz.func97,Tryz.ntmps97
 go_wp2_with fail
 go_loopw [4] (fun i wr=>∃ k:Nat,k≤Ls.length∧i = .int .i64 k∧Hid (CSt A C R w ads Xs (.slice la Ls.length lc) cv cs Ls k (bK b X (Ls.map Rln.av) k) (.slice none 0 0) [] wr)) (fun i _=>Ls.length - (intOf i).toNat)
 case atStart=>exact ⟨0,Nat.zero_le _,rfl,S0⟩
 case round =>
  clear t1 S0
  obtain ⟨k,hk,rfl,CS⟩:=hrel
  have t1:wr.cell? ⟨C.TB,1,none⟩=some (.slice la Ls.length lc):=by
   obtain ⟨R1,L,rt,_⟩:=CS.out
   exact rt.c1
  by_cases hkl:k<Ls.length
  ·obtain ⟨g,off,hla,c0,c1,c2,c3⟩:∃ g off,la=some ⟨g,off,none⟩∧wr.cell? ⟨g,off+k*4,none⟩=some (.int .i64 ((lnat Ls k).fr:Int))∧wr.cell? ⟨g,off+k*4+1,none⟩=some (.int .i64 ((lnat Ls k).to:Int))∧wr.cell? ⟨g,off+k*4+1+1,none⟩=some (.slice (lnat Ls k).qad (lnat Ls k).q.length (lnat Ls k).qcap)∧wr.cell? ⟨g,off+k*4+1+1+1,none⟩=some (.slice (lnat Ls k).tad (lnat Ls k).told.length (lnat Ls k).tcap):=by
    obtain ⟨R1,L,rt,fr,hm,hun,_⟩:=CS.out
    have hLn:L.length=Ls.length:=by rw [← HBL.out k, ← hm,List.length_map]
    have hlk:=rt.l.lk
    rw [hLn] at hlk
    obtain ⟨g,off,e,_,c0,c1,c2,c3⟩:=hlk.rowAt.lnk (j:=k) (by omega)
    rw [hun k (Nat.le_refl k)] at c0 c1 c2 c3
    exact ⟨g,off,e,c0,c1,c2,c3⟩
   subst hla
   have HB1:Hid ((Ls.map Rln.av)[k]? = some (lnat Ls k).av):=alat rfl hkl
   have hlm:=lnat_mem hkl
   have HT1:=Hid.mk' (TD.out _ hlm)
   have hq1:=(HQ.out _ hlm).1
   have hq2:=(HQ.out _ hlm).2
   generalize lnat Ls k=l at *
   generalize l.tad=tad at *
   by_cases e1:l.fr=b
   ·have e1':((l.fr:Int)==(b:Int))=true:=by simp [e1]
    obtain ⟨hb1,hb2⟩:=bK_at (b:=b) (X:=X) HB1.out
    have HB2:=Hid.mk' hb1
    have HB3:=Hid.mk' hb2
    clear hb1 hb2
    rw [e1] at c0
    have CS1:Hid (CSt A C R w ads Xs (.slice (some ⟨g,off,none⟩) Ls.length lc) cv cs Ls (k+1) ((bK b X (Ls.map Rln.av) k).set k (y1 l X 0)) (.slice none 0 0) (keysM (toldTo l.to X 0)) wr):=by
     rw [toldTo_zero,y1,newTo_zero,List.map_nil,List.append_nil]
     show CSt _ _ _ _ _ _ _ _ _ _ _ _ _ _ _
     have e:({ fr:=l.fr,to:=l.to,q:=l.av.q,told:=l.told }:Al)=l.av:=rfl
     rw [e,set_back HB2.out]
     exact CS.out.next
    clear CS
    go_wp2_with fail
    clear t1 c0 c1 c2 c3
    go_loopw [6,7] (fun v i wr=>∃ (q:Nat) (va:Option Addr) (vk:Nat),q≤X.length∧v = .slice va (keysM (toldTo l.to X q)).length vk∧i = .int .i64 q∧Hid (CSt A C R w ads Xs (.slice (some ⟨g,off,none⟩) Ls.length lc) cv cs Ls (k+1) ((bK b X (Ls.map Rln.av) k).set k (y1 l X q)) v (keysM (toldTo l.to X q)) wr)) (fun _ i _=>X.length - (intOf i).toNat)
    case atStart=>exact ⟨0,none,0,Nat.zero_le _,by rw [toldTo_zero];rfl,rfl,CS1⟩
    case round =>
     clear CS1
     obtain ⟨q,va,vk,hq,rfl,rfl,CS⟩:=hrel
     have HY:Hid (((bK b X (Ls.map Rln.av) k).set k (y1 l X q))[k]? = some (y1 l X q)):=setq_at HB2.out
     have HYL:Hid (((bK b X (Ls.map Rln.av) k).set k (y1 l X q)).length=Ls.length):=by show _=_;rw [List.length_set];exact HBL.out k
     obtain ⟨t0,t1,th,_,c1,htl,hhl,hgl,hrow,hfi⟩:=CS.out.look HYL.out HY.out hb
     have c1:wr.cell? ⟨g,off+k*4+1,none⟩=some (.int .i64 (l.to:Int)):=c1
     rw [hXX] at th hrow hfi
     have HFI:=Hid.mk' hfi
     by_cases hql:q<X.length
     ·obtain ⟨b',off',had,hb',d0,d1,d2,d3⟩:=hrow.hold hql
      have HROW:=Hid.mk' hrow
      rw [had] at th HROW
      clear hrow hfi
      have HQN:=Hid.mk' (fun (hc:(hat X q).1.fr=(l.to:Int)∨hidB X (hat X q).1 l.to=true)=>newTo_no (old:=l.told) hql hc)
      have HQO:=Hid.mk' (fun (h1:(hat X q).1.fr≠(l.to:Int)) h2 (h3:(l.told.any fun k=>k==(hat X q).1.key)=true)=>newTo_old hql h1 h2 h3)
      have HQW:=Hid.mk' (fun (h1:(hat X q).1.fr≠(l.to:Int)) h2 (h3:(l.told.any fun k=>k==(hat X q).1.key)=false)=>newTo_new hql h1 h2 h3)
      have HHD:Hid (∀ W,Gr wr W→Calls Tryz.prog 121 #[.pointer (some ⟨C.TB,0,none⟩),.int .i64 b,.int .i64 q,.int .i64 l.to] W fun e w'=>e = .returned (.bool (hidB X (hat X q).1 l.to))∧Gr W w'):=fun W gW =>
       hidden_row C.TB C.HB C.nb C.hcap (some ⟨b',off',none⟩) (ads b).2 X W b hb q hql l.to (by rw [(bcell gW).1 _ _ htl];exact t0) (by rw [(bcell gW).1 _ _ hhl];exact th) (HROW.out.gr gW) (fun x hx=>(HFI.out x hx).gr gW) (by unfold maxLen;omega)
      have HXM:=Hid.mk' (hat_mem hql)
      generalize hat X q=x at *
      by_cases e2:x.1.fr=(l.to:Int)
      ·have e2':(x.1.fr==(l.to:Int))=true:=by simp [e2]
       have HN:=Hid.mk' (HQN.out (Or.inl e2))
       clear HQN HQO HQW HHD e2
       go_wp2_with fail
       have GW:=Hid.mk' ((Gr.refl wr).alloc (.cells #[.int .i64 x.1.key.1,.int .i64 x.1.key.2,.slice x.2.1 x.1.f.length x.2.2,.int .i64 x.1.fr] 202))
       have P0:=Hid.mk' (heap_alloc_new wr (.cells #[.int .i64 x.1.key.1,.int .i64 x.1.key.2,.slice x.2.1 x.1.f.length x.2.2,.int .i64 x.1.fr] 202))
       generalize wr.alloc (.cells #[.int .i64 x.1.key.1,.int .i64 x.1.key.2,.slice x.2.1 x.1.f.length x.2.2,.int .i64 x.1.fr] 202)=W1 at *
       have p3:W1.cell? ⟨wr.heap.size,2+1,none⟩=some (.int .i64 x.1.fr):=by rw [cell_of_row _ _ _ _ _ _ P0.out];rfl
       have p3':W1.cell? ⟨wr.heap.size,3,none⟩=some (.int .i64 x.1.fr):=p3
       have t1':=((bcell GW.out).1 _ 1 htl).trans t1
       have c1':=((bcell GW.out).1 _ (off+k*4+1) hgl).trans c1
       clear t0 t1 th c1 d0 d1 d2 d3
       go_quiet (fail)
       have GW2:=Hid.mk' (GW.out.drewN nq)
       clear p3 p3' t1' c1'
       go_wp2_with fail
       exact ⟨⟨q+1,va,vk,hql,by rw [HN.out.2],by simp,by rw [y1,HN.out.1,HN.out.2];exact CS.out.gr GW2.out⟩,measM_dec _ _ hql⟩
      ·have e2':(x.1.fr==(l.to:Int))=false:=by simp [e2]
       have HN:=Hid.mk' e2
       clear e2
       go_wp2_with fail
       have GW:=Hid.mk' ((Gr.refl wr).alloc (.cells #[.int .i64 x.1.key.1,.int .i64 x.1.key.2,.slice x.2.1 x.1.f.length x.2.2,.int .i64 x.1.fr] 202))
       have P0:=Hid.mk' (heap_alloc_new wr (.cells #[.int .i64 x.1.key.1,.int .i64 x.1.key.2,.slice x.2.1 x.1.f.length x.2.2,.int .i64 x.1.fr] 202))
       generalize wr.alloc (.cells #[.int .i64 x.1.key.1,.int .i64 x.1.key.2,.slice x.2.1 x.1.f.length x.2.2,.int .i64 x.1.fr] 202)=W1 at *
       have p3:W1.cell? ⟨wr.heap.size,3,none⟩=some (.int .i64 x.1.fr):=by rw [cell_of_row _ _ _ _ _ _ P0.out];rfl
       have t1':=((bcell GW.out).1 _ 1 htl).trans t1
       have c1':=((bcell GW.out).1 _ (off+k*4+1) hgl).trans c1
       go_quiet (fail)
       have GW2:=Hid.mk' (GW.out.drewN nq)
       have P2:=Hid.mk' (blk_gr ((Gr.refl W1).drewN nq) P0.out)
       clear p3 t1' c1' P0
       generalize W1.drewN nq=W2 at *
       have t1':=((bcell GW2.out).1 _ 1 htl).trans t1
       have c1':=((bcell GW2.out).1 _ (off+k*4+1) hgl).trans c1
       have HH:=Hid.mk' (HHD.out W2 GW2.out)
       go_wp2_with fail
       refine HH.out.mono ?_
       rintro e w4 ⟨rfl,g4⟩
       have G4:=Hid.mk' (Gr.call GW2.out g4)
       have P4:=Hid.mk' (blk_gr g4 P2.out)
       clear g4 HH HHD P2 t1' c1' GW2 t0 t1 th c1 d0 d1 d2 d3
       cases hid:hidB X x.1 l.to with
       | true =>
        have HN2:=Hid.mk' (HQN.out (Or.inr hid))
        clear HQN HQO HQW
        go_wp2_with fail
        exact ⟨⟨q+1,va,vk,hql,by rw [HN2.out.2],by simp,by rw [y1,HN2.out.1,HN2.out.2];exact CS.out.gr G4.out⟩,measM_dec _ _ hql⟩
       | false =>
        have p0:w4.cell? ⟨wr.heap.size,0,none⟩=some (.int .i64 x.1.key.1):=by rw [cell_of_row _ _ _ _ _ _ P4.out];rfl
        have p1:w4.cell? ⟨wr.heap.size,1,none⟩=some (.int .i64 x.1.key.2):=by rw [cell_of_row _ _ _ _ _ _ P4.out];rfl
        have hsl:wr.heap.size<w4.heap.size:=blk_lt P4.out
        have VO:=Hid.mk' CS.out.vown.1
        have CS4:=Hid.mk' (CS.out.gr (G4.out.alloc (.cells #[.int .i64 x.1.key.1,.int .i64 x.1.key.2] 200)))
        obtain ⟨PP,hqn⟩:=CS4.out.vown.2
        have HQ4:=Hid.mk' hqn
        have HKL:(keysM (toldTo l.to X q)).length≤1048576:=by have:=toldTo_len l.to X q;unfold keysM;rw [List.length_map];omega
        clear hqn CS G4 HQN
        go_wp2_with (at_builtin;refine wpList_append_q rfl _ _ 194 rfl 200 j0 _ 2 16 Tryz.underlying194 gi gz0 gz1 gz2 rfl PP _ _ (kcells (keysM (toldTo l.to X q))) rfl HQ4.out ⟨w4.heap.size,0,none⟩ 1 1 [.int .i64 x.1.key.1,.int .i64 x.1.key.2] rfl (by omega) rfl (World.news_of_block (new_atK rfl)) ?k2 ?k3 ?k4 ?_)
        case k2=>intro t ht;simp at ht;rcases ht with rfl | rfl <;> rfl
        case k3=>unfold maxLen;omega
        case k4=>omega
        intro v5 w5 hq5 hg5 ho5 _
        obtain ⟨ya,yk,rfl⟩:=hq5.shape
        have CS5:=Hid.mk' (CS4.out.now HA.out hg5 (y:=x.1.key) hq5 (by rw [size_alloc'];exact ho5))
        have P5:Hid (w5.heap[wr.heap.size]? = some (.cells #[.int .i64 x.1.key.1,.int .i64 x.1.key.2,.slice x.2.1 x.1.f.length x.2.2,.int .i64 x.1.fr] 202 (0,0))):=by
         show _=_
         rw [hg5.block _ (by simp;omega) (fun e=>by have:=VO.out _ e.symm;omega)]
         exact blk_gr ((Gr.refl w4).alloc _) P4.out
        have p0':w5.cell? ⟨wr.heap.size,0,none⟩=some (.int .i64 x.1.key.1):=by rw [cell_of_row _ _ _ _ _ _ P5.out];rfl
        have p1':w5.cell? ⟨wr.heap.size,1,none⟩=some (.int .i64 x.1.key.2):=by rw [cell_of_row _ _ _ _ _ _ P5.out];rfl
        have AM:=Hid.mk' (among_any x.1.key l.told tad l.tcap w5 (by unfold maxLen;omega) (CS5.out.was HT1.out))
        clear hq5 hg5 ho5 CS4 HQ4 P4 p0 p1 hsl
        go_wp2_with fail
        refine AM.out.mono ?_
        rintro e w6 ⟨rfl,g6⟩
        have CS6:=Hid.mk' (CS5.out.gr g6)
        have P6:=Hid.mk' (blk_gr g6 P5.out)
        clear g6 AM CS5 P5 p0' p1'
        cases hold:(l.told.any fun k=>k==x.1.key) with
        | true =>
         have HN2:=Hid.mk' (HQO.out HN.out hid hold)
         clear HQO HQW
         go_wp2_with fail
         exact ⟨⟨q+1,ya,yk,hql,by rw [HN2.out.2,keysM_snoc,List.length_append];rfl,by simp,by rw [y1,HN2.out.1,HN2.out.2,keysM_snoc];exact CS6⟩,measM_dec _ _ hql⟩
        | false =>
         have HN2:=Hid.mk' (HQW.out HN.out hid hold)
         clear HQO HQW
         obtain ⟨R6,L6,rt6,fr6,hm6,hun6,hqn6⟩:=CS6.out
         have hL6:L6.length=Ls.length:=by rw [← HYL.out, ← hm6,List.length_map]
         have hav:=alat hm6 (k:=k) (by omega)
         rw [HY.out] at hav
         injection hav with hav
         have hlk:=rt6.l.lk
         rw [hL6] at hlk
         obtain ⟨g',off2,eg,hg6,_,_,c2,_⟩:=hlk.rowAt.lnk (j:=k) (by omega)
         injection eg with eg
         injection eg with eg1 eg2
         subst eg1 eg2
         obtain ⟨g',off3,cap3,cur3,eg,_,hgb,_⟩:=hlk.some' (by omega)
         injection eg with eg _ e9
         injection eg with eg
         injection eg with eg1 eg2
         subst eg1 eg2 e9
         have QQ:=rt6.l.qu k (by omega)
         have hql6:(lnat L6 k).q.length≤549756862464:=by
          have:=congrArg List.length (av_eq hav.symm).2.2.1
          have h2:=newTo_len l.to X l.told q
          simp only [List.length_map,y1,Rln.av,List.length_append] at this
          omega
         have t1:=rt6.c1
         have fz:=frz0 hgb (off+k*4+2)
         have p0:w6.cell? ⟨wr.heap.size,0,none⟩=some (.int .i64 x.1.key.1):=by rw [cell_of_row _ _ _ _ _ _ P6.out];rfl
         have p1:w6.cell? ⟨wr.heap.size,1,none⟩=some (.int .i64 x.1.key.2):=by rw [cell_of_row _ _ _ _ _ _ P6.out];rfl
         have p2:w6.cell? ⟨wr.heap.size,2,none⟩=some (.slice x.2.1 x.1.f.length x.2.2):=by rw [cell_of_row _ _ _ _ _ _ P6.out];rfl
         have c2':w6.cell? ⟨g,off+k*4+2,none⟩=some (.slice (lnat L6 k).qad (lnat L6 k).q.length (lnat L6 k).qcap):=c2
         have n1:some C.TB≠Value.ownBlock (.slice (lnat L6 k).qad (lnat L6 k).q.length (lnat L6 k).qcap):=fun e=>absurd (QQ.ownTy e.symm rt6.b.t) (by decide)
         have n2:some g≠Value.ownBlock (.slice (lnat L6 k).qad (lnat L6 k).q.length (lnat L6 k).qcap):=fun e=>absurd (QQ.ownTy e.symm hgb) (by decide)
         have n3:some wr.heap.size≠Value.ownBlock (.slice (lnat L6 k).qad (lnat L6 k).q.length (lnat L6 k).qcap):=fun e=>absurd (QQ.ownTy e.symm P6.out) (by decide)
         have CEL:Hid (∀ wz,w6.grownBy wz (Value.ownBlock (.slice (lnat L6 k).qad (lnat L6 k).q.length (lnat L6 k).qcap))→wz.cell? ⟨C.TB,1,none⟩=some (.slice (some ⟨g,off,none⟩) Ls.length lc)∧wz.cell? ⟨g,off+k*4+2,none⟩=some (.slice (lnat L6 k).qad (lnat L6 k).q.length (lnat L6 k).qcap)∧wz.cell? ⟨wr.heap.size,0,none⟩=some (.int .i64 x.1.key.1)∧wz.cell? ⟨wr.heap.size,1,none⟩=some (.int .i64 x.1.key.2)∧wz.cell? ⟨wr.heap.size,2,none⟩=some (.slice x.2.1 x.1.f.length x.2.2)):=fun wz gg=>by
          have b1:=gg.block _ rt6.tlt n1
          have b2:=gg.block _ hg6 n2
          have b3:=gg.block _ (blk_lt P6.out) n3
          exact ⟨by rw [cell_blk b1];exact t1,by rw [cell_blk b2];exact c2',by rw [cell_blk b3];exact p0,by rw [cell_blk b3];exact p1,by rw [cell_blk b3];exact p2⟩
         have CFZ:Hid (∀ wz,w6.grownBy wz (Value.ownBlock (.slice (lnat L6 k).qad (lnat L6 k).q.length (lnat L6 k).qcap))→wz.frozen? ⟨g,off+k*4+2,none⟩=false):=fun wz gg=>frz0 ((gg.block _ hg6 n2).trans hgb) _
         have VOW:Hid (∀ i,Value.ownBlock (.slice (lnat L6 k).qad (lnat L6 k).q.length (lnat L6 k).qcap)=some i→i<w6.heap.size):=fun i hi=>(QQ.own i hi).2
         have k0:(0:Int)≤(k:Int):=by omega
         have kl:(k:Int)<(Ls.length:Int):=by omega
         have HRT:=Hid.mk' rt6
         have HFR:=Hid.mk' fr6
         have HM6:=Hid.mk' hm6
         have HU6:=Hid.mk' hun6
         have HN6:=Hid.mk' hqn6
         have HQQ:=Hid.mk' QQ
         have HAV:=Hid.mk' hav
         clear rt6 fr6 hm6 hun6 hqn6 QQ hav hlk hgb fz c2 CS6 P6
         go_wp2_with fail
         refine region_D rfl 22 (by rfl) (fun i=>97+i) (fun i _ j _ h=>by omega) (Rsq ⟨C.TB,g,off,Ls.length,lc,k,.slice (lnat L6 k).qad (lnat L6 k).q.length (lnat L6 k).qcap,(lnat L6 k).q.length,(lnat L6 k).q.flatMap rmcells,fun i=>R6 i = .qu k 0,.pointer (some ⟨wr.heap.size,0,none⟩),.agg #[.int .i64 x.1.key.1,.int .i64 x.1.key.2],.pointer (some ⟨wr.heap.size,2,none⟩),.slice x.2.1 x.1.f.length x.2.2,.int .i64 1,.int .i64 x.1.key.1,.int .i64 x.1.key.2,.slice x.2.1 x.1.f.length x.2.2,.slice none 0 0,w6⟩) (Ef0 _ 97 22) (Wsq ⟨C.TB,g,off,Ls.length,lc,k,.slice (lnat L6 k).qad (lnat L6 k).q.length (lnat L6 k).qcap,(lnat L6 k).q.length,(lnat L6 k).q.flatMap rmcells,fun i=>R6 i = .qu k 0,.pointer (some ⟨wr.heap.size,0,none⟩),.agg #[.int .i64 x.1.key.1,.int .i64 x.1.key.2],.pointer (some ⟨wr.heap.size,2,none⟩),.slice x.2.1 x.1.f.length x.2.2,.int .i64 1,.int .i64 x.1.key.1,.int .i64 x.1.key.2,.slice x.2.1 x.1.f.length x.2.2,.slice none 0 0,w6⟩) (Gsq ⟨C.TB,g,off,Ls.length,lc,k,.slice (lnat L6 k).qad (lnat L6 k).q.length (lnat L6 k).qcap,(lnat L6 k).q.length,(lnat L6 k).q.flatMap rmcells,fun i=>R6 i = .qu k 0,.pointer (some ⟨wr.heap.size,0,none⟩),.agg #[.int .i64 x.1.key.1,.int .i64 x.1.key.2],.pointer (some ⟨wr.heap.size,2,none⟩),.slice x.2.1 x.1.f.length x.2.2,.int .i64 1,.int .i64 x.1.key.1,.int .i64 x.1.key.2,.slice x.2.1 x.1.f.length x.2.2,.slice none 0 0,w6⟩) (fun a i x hi h=>Ef0.put (by simp) a i x hi h) (fun a h i hi=>by have:=h.sz (by simp);simp at this;omega) (fun i wa wb h g=>⟨h.1.trans g.g,g.q h.2⟩) (fun i j x wa wb hij h g=>Rsq.keep VOW.out i j x wa wb hij h g) ?front ?last (Ef0.start _ 97 22 (by simp)) ⟨⟨rfl,rfl,rfl,Nat.le_refl _,fun _ _ _=>rfl⟩,HQQ.out.kept fun i _ hP=>⟨rfl,hP⟩⟩
         case front =>
          intro i o a' wz ho hi' hE hW hd K hK
          have gW:=hW.1
          obtain ⟨z1,z2,z3⟩:=CEL.out wz gW
          have t0:a'.tmps[0]?.getD undef = .pointer (some ⟨C.TB,0,none⟩):=(evn a' 0).symm.trans (hE.at_ (by simp) (by omega))
          have t4:a'.tmps[4]?.getD undef = .int .i64 k:=(evn a' 4).symm.trans (hE.at_ (by simp) (by omega))
          have t8:a'.tmps[8]?.getD undef = .pointer (some ⟨wr.heap.size,0,none⟩):=(evn a' 8).symm.trans (hE.at_ (by simp) (by omega))
          clear hE
          match i,ho,hi',hd,hK with
          | 0,ho,_,hd,hK =>
           obtain rfl:=Option.some.inj ho
           clear hd z1 z2 z3 hW
           unfold Oper.wp
           go_simp
           exact hK _ _ (Gsq.gr (Gr.refl _)) rfl
          | 1,ho,_,hd,hK =>
           obtain rfl:=Option.some.inj ho
           have e0:a'.eval (.tmp 97) = .pointer (some ⟨C.TB,0,none⟩):=hd ⟨0,.data⟩ (by simp) rfl
           rw [evn] at e0
           clear hd z1 z2 z3 hW
           unfold Oper.wp
           go_simp
           exact hK _ _ (Gsq.gr (Gr.refl _)) rfl
          | 2,ho,_,hd,hK =>
           obtain rfl:=Option.some.inj ho
           have e0:a'.eval (.tmp 98) = .pointer (some ⟨C.TB,0,none⟩):=hd ⟨1,.data⟩ (by simp) rfl
           rw [evn] at e0
           clear hd z1 z2 z3 hW
           unfold Oper.wp
           go_simp
           exact hK _ _ (Gsq.gr (Gr.refl _)) rfl
          | 3,ho,_,hd,hK =>
           obtain rfl:=Option.some.inj ho
           have e0:a'.eval (.tmp 99) = .pointer (some ⟨C.TB,1,none⟩):=hd ⟨2,.data⟩ (by simp) rfl
           rw [evn] at e0
           clear hd hW
           unfold Oper.wp
           go_simp
           exact hK _ _ (Gsq.gr (Gr.refl _)) rfl
          | 4,ho,_,hd,hK =>
           obtain rfl:=Option.some.inj ho
           clear hd z1 z2 z3 hW
           unfold Oper.wp
           go_simp
           exact hK _ _ (Gsq.gr (Gr.refl _)) rfl
          | 5,ho,_,hd,hK =>
           obtain rfl:=Option.some.inj ho
           clear hd z1 z2 z3 hW
           unfold Oper.wp
           go_simp
           exact hK _ _ (Gsq.gr (Gr.refl _)) rfl
          | 6,ho,_,hd,hK =>
           obtain rfl:=Option.some.inj ho
           have e0:a'.eval (.tmp 102) = .pointer (some ⟨C.TB,0,none⟩):=hd ⟨5,.data⟩ (by simp) rfl
           rw [evn] at e0
           clear hd z1 z2 z3 hW
           unfold Oper.wp
           go_simp
           exact hK _ _ (Gsq.gr (Gr.refl _)) rfl
          | 7,ho,_,hd,hK =>
           obtain rfl:=Option.some.inj ho
           have e0:a'.eval (.tmp 103) = .pointer (some ⟨C.TB,0,none⟩):=hd ⟨6,.data⟩ (by simp) rfl
           rw [evn] at e0
           clear hd z1 z2 z3 hW
           unfold Oper.wp
           go_simp
           exact hK _ _ (Gsq.gr (Gr.refl _)) rfl
          | 8,ho,_,hd,hK =>
           obtain rfl:=Option.some.inj ho
           have e0:a'.eval (.tmp 104) = .pointer (some ⟨C.TB,1,none⟩):=hd ⟨7,.data⟩ (by simp) rfl
           rw [evn] at e0
           clear hd hW
           unfold Oper.wp
           go_simp
           exact hK _ _ (Gsq.gr (Gr.refl _)) rfl
          | 9,ho,_,hd,hK =>
           obtain rfl:=Option.some.inj ho
           clear hd z1 z2 z3 hW
           unfold Oper.wp
           go_simp
           exact hK _ _ (Gsq.gr (Gr.refl _)) rfl
          | 10,ho,_,hd,hK =>
           obtain rfl:=Option.some.inj ho
           have e0:a'.eval (.tmp 105) = .slice (some ⟨g,off,none⟩) Ls.length lc:=hd ⟨8,.data⟩ (by simp) rfl
           have e1:a'.eval (.tmp 106) = .int .i64 k:=hd ⟨9,.data⟩ (by simp) rfl
           rw [evn] at e0 e1
           clear hd z1 z2 z3 hW
           unfold Oper.wp
           go_simp
           exact hK _ _ (Gsq.gr (Gr.refl _)) rfl
          | 11,ho,_,hd,hK =>
           obtain rfl:=Option.some.inj ho
           have e0:a'.eval (.tmp 107) = .pointer (some ⟨g,off+k*4,none⟩):=hd ⟨10,.data⟩ (by simp) rfl
           rw [evn] at e0
           clear hd z1 z2 z3 hW
           unfold Oper.wp
           go_simp
           exact hK _ _ (Gsq.gr (Gr.refl _)) rfl
          | 12,ho,_,hd,hK =>
           obtain rfl:=Option.some.inj ho
           have e0:a'.eval (.tmp 108) = .pointer (some ⟨g,off+k*4+2,none⟩):=hd ⟨11,.data⟩ (by simp) rfl
           rw [evn] at e0
           clear hd hW
           unfold Oper.wp
           go_simp
           exact hK _ _ (Gsq.gr (Gr.refl _)) rfl
          | 13,ho,_,hd,hK =>
           obtain rfl:=Option.some.inj ho
           clear hd z1 z2 z3 hW
           unfold Oper.wp
           go_simp
           exact hK _ _ (Gsq.gr (Gr.refl _)) rfl
          | 14,ho,_,hd,hK =>
           obtain rfl:=Option.some.inj ho
           have e0:a'.eval (.tmp 110) = .pointer (some ⟨wr.heap.size,0,none⟩):=hd ⟨13,.data⟩ (by simp) rfl
           rw [evn] at e0
           obtain ⟨y0,y1',y2'⟩:=z3
           clear hd hW
           unfold Oper.wp
           go_simp
           exact hK _ _ (Gsq.gr (Gr.refl _)) rfl
          | 15,ho,_,hd,hK =>
           obtain rfl:=Option.some.inj ho
           clear hd z1 z2 z3 hW
           unfold Oper.wp
           go_simp
           exact hK _ _ (Gsq.gr (Gr.refl _)) rfl
          | 16,ho,_,hd,hK =>
           obtain rfl:=Option.some.inj ho
           have e0:a'.eval (.tmp 112) = .pointer (some ⟨wr.heap.size,2,none⟩):=hd ⟨15,.data⟩ (by simp) rfl
           rw [evn] at e0
           obtain ⟨y0,y1',y2'⟩:=z3
           clear hd hW
           unfold Oper.wp
           go_simp
           exact hK _ _ (Gsq.gr (Gr.refl _)) rfl
          | 17,ho,_,hd,hK =>
           obtain rfl:=Option.some.inj ho
           have e0:a'.eval (.tmp 111) = .agg #[.int .i64 x.1.key.1,.int .i64 x.1.key.2]:=hd ⟨14,.data⟩ (by simp) rfl
           have e1:a'.eval (.tmp 113) = .slice x.2.1 x.1.f.length x.2.2:=hd ⟨16,.data⟩ (by simp) rfl
           rw [evn] at e0 e1
           clear hd z1 z2 z3 hW
           unfold Oper.wp
           go_simp
           exact hK _ _ (Gsq.gr (Gr.refl _)) rfl
          | 18,ho,_,hd,hK =>
           obtain rfl:=Option.some.inj ho
           have e0:a'.eval (.tmp 114) = .agg #[.int .i64 1,.int .i64 x.1.key.1,.int .i64 x.1.key.2,.slice x.2.1 x.1.f.length x.2.2,.slice none 0 0]:=hd ⟨17,.data⟩ (by simp) rfl
           rw [evn] at e0
           clear hd z1 z2 z3 hW
           unfold Oper.wp
           go_simp
           exact hK _ _ (Gsq.gr ((Gr.refl _).alloc _)) ⟨_,rfl,gW.size,heap_alloc_new _ _⟩
          | 19,ho,_,hd,hK =>
           obtain rfl:=Option.some.inj ho
           have e0:a'.eval (.tmp 109) = .slice (lnat L6 k).qad (lnat L6 k).q.length (lnat L6 k).qcap:=hd ⟨12,.data⟩ (by simp) rfl
           obtain ⟨gg,e1,hg1,hg2⟩:Rsq ⟨C.TB,g,off,Ls.length,lc,k,.slice (lnat L6 k).qad (lnat L6 k).q.length (lnat L6 k).qcap,(lnat L6 k).q.length,(lnat L6 k).q.flatMap rmcells,fun i=>R6 i = .qu k 0,.pointer (some ⟨wr.heap.size,0,none⟩),.agg #[.int .i64 x.1.key.1,.int .i64 x.1.key.2],.pointer (some ⟨wr.heap.size,2,none⟩),.slice x.2.1 x.1.f.length x.2.2,.int .i64 1,.int .i64 x.1.key.1,.int .i64 x.1.key.2,.slice x.2.1 x.1.f.length x.2.2,.slice none 0 0,w6⟩ 18 (a'.eval (.tmp 115)) wz:=hd ⟨18,.data⟩ (by simp) rfl
           refine wp_append_q wz (.tmp 109) (.tmp 115) 193 rfl 209 i0 _ 5 72 Tryz.underlying193 hi hz0 hz1 hz2 rfl _ _ _ _ e0 hW.2 ⟨gg,0,none⟩ 1 1 [.int .i64 1,.int .i64 x.1.key.1,.int .i64 x.1.key.2,.slice x.2.1 x.1.f.length x.2.2,.slice none 0 0] e1 (by omega) rfl (World.news_of_block hg2) (by simp [Value.oneCell']) (by unfold maxLen;show (lnat L6 k).q.length+1≤_;omega) (by show ((lnat L6 k).q.length+1)*72≤_;omega) ?_
           intro v' w' k1 k2 k3 k4
           obtain ⟨sa,sc,hsv⟩:=k1.shape
           refine hK _ _ ⟨k2,fun _=>k4,fun h=>absurd rfl h⟩ ⟨⟨sa,_,sc,hsv⟩,k1,?_⟩
           rcases k3 with k3 | k3
           ·exact Or.inl k3
           ·exact Or.inr ⟨_,gW.size,k3⟩
          | 20,ho,_,hd,hK =>
           obtain rfl:=Option.some.inj ho
           have e0:a'.eval (.tmp 100) = .slice (some ⟨g,off,none⟩) Ls.length lc:=hd ⟨3,.data⟩ (by simp) rfl
           have e1:a'.eval (.tmp 101) = .int .i64 k:=hd ⟨4,.data⟩ (by simp) rfl
           rw [evn] at e0 e1
           clear hd z1 z2 z3 hW
           unfold Oper.wp
           go_simp
           exact hK _ _ (Gsq.gr (Gr.refl _)) rfl
          | 21,ho,_,hd,hK =>
           obtain rfl:=Option.some.inj ho
           have e0:a'.eval (.tmp 117) = .pointer (some ⟨g,off+k*4,none⟩):=hd ⟨20,.data⟩ (by simp) rfl
           rw [evn] at e0
           clear hd z1 z2 z3 hW
           unfold Oper.wp
           go_simp
           exact hK _ _ (Gsq.gr (Gr.refl _)) rfl
          | k'+22,_,hi',_,_=>exact absurd hi' (by omega)
         case last =>
          intro o a' wz ho hE hW hd K hK
          obtain rfl:=Option.some.inj ho
          have gW:=hW.1
          obtain ⟨_,z2,_⟩:=CEL.out wz gW
          have zf:=CFZ.out wz gW
          have e21:a'.eval (.tmp 118) = .pointer (some ⟨g,off+k*4+2,none⟩):=hd 21 (by omega)
          obtain ⟨⟨sa,sn,sc,hsv⟩,k1,k3⟩:Rsq ⟨C.TB,g,off,Ls.length,lc,k,.slice (lnat L6 k).qad (lnat L6 k).q.length (lnat L6 k).qcap,(lnat L6 k).q.length,(lnat L6 k).q.flatMap rmcells,fun i=>R6 i = .qu k 0,.pointer (some ⟨wr.heap.size,0,none⟩),.agg #[.int .i64 x.1.key.1,.int .i64 x.1.key.2],.pointer (some ⟨wr.heap.size,2,none⟩),.slice x.2.1 x.1.f.length x.2.2,.int .i64 1,.int .i64 x.1.key.1,.int .i64 x.1.key.2,.slice x.2.1 x.1.f.length x.2.2,.slice none 0 0,w6⟩ 19 (a'.eval (.tmp 116)) wz:=hd 19 (by omega)
          have hdf:=hE.df
          obtain ⟨z,hz,hts⟩:=hE.ts
          have HTS:=Hid.mk' (And.intro hz (And.intro hts hdf))
          clear hz hts hdf
          have kW:Qr wz 209 5 (fun i=>R6 i = .qu k 0) _ _ _:=hW.2
          clear hd hE hW ho
          rw [hsv] at k1 k3
          obtain ⟨sa',sc',hs9⟩:=k1.shape
          injection hs9 with ha9 hn9 hc9
          subst ha9 hn9 hc9
          have FIN:=Hid.mk' (CSt.send HRT.out HFR.out HM6.out HU6.out HN6.out (by omega) (subM x) (HRT.out.h.fi b hb x (by rw [hXX];exact HXM.out)) k1 gW kW k3 rfl hL6.symm HY.out)
          rw [set_idem, ← Nat.add_assoc] at FIN
          unfold y1 subM at FIN
          clear k1 k3 kW gW
          rw [evn] at e21 hsv
          unfold Oper.wp
          go_simp
          refine hK _ _ ?_
          clear e21 hsv hK z2 zf
          obtain ⟨hz,hts,hdf⟩:=HTS.out
          obtain ⟨z0,z1',z2',z3',z4,z5,z6,z7,z8,z9,z10,z11,z12,z13,z14,z15,z16,z17,z18,z19,z20,z21,rfl⟩:=len22 hz
          obtain ⟨tm,df⟩:=a'
          simp only at hts hdf
          subst hts hdf
          clear hz
          simp only [List.take_succ_cons,List.take_zero,List.drop_succ_cons,List.drop_zero,List.cons_append,List.nil_append]
          go_wp2_with fail
          refine ⟨⟨q+1,ya,yk,hql,by rw [HN2.out.2,keysM_snoc,List.length_append];rfl,by simp,?_⟩,measM_dec _ _ hql⟩
          rw [y1,HN2.out.1,HN2.out.2,keysM_snoc,List.map_append, ← List.append_assoc,List.map_cons,List.map_nil]
          exact FIN
     ·have hqe:q=X.length:=by omega
      subst hqe
      have CS2:Hid (CSt A C R w ads Xs (.slice (some ⟨g,off,none⟩) Ls.length lc) cv cs Ls (k+1) ((bK b X (Ls.map Rln.av) k).set k (y2 l X 0)) (.slice va (keysM (toldM l.to X)).length vk) (keysM (toldM l.to X)) wr):=by
       have c:=CS.out
       rw [toldTo_all] at c
       rw [y2,goneTo_zero,List.map_nil,List.append_nil]
       exact c
      rw [toldTo_all]
      clear CS HY HYL
      go_wp2_with fail
      clear t0 t1 th c1 hrow hfi HFI
      go_loopw [11] (fun i wr=>∃ q:Nat,q≤l.told.length∧i = .int .i64 q∧Hid (CSt A C R w ads Xs (.slice (some ⟨g,off,none⟩) Ls.length lc) cv cs Ls (k+1) ((bK b X (Ls.map Rln.av) k).set k (y2 l X q)) (.slice va (keysM (toldM l.to X)).length vk) (keysM (toldM l.to X)) wr)) (fun i _=>l.told.length - (intOf i).toNat)
      case atStart=>exact ⟨0,Nat.zero_le _,rfl,CS2⟩
      case round =>
       clear CS2 htl hhl hgl
       obtain ⟨q,hq,rfl,CS⟩:=hrel
       have HY:Hid (((bK b X (Ls.map Rln.av) k).set k (y2 l X q))[k]? = some (y2 l X q)):=setq_at HB2.out
       have HYL:Hid (((bK b X (Ls.map Rln.av) k).set k (y2 l X q)).length=Ls.length):=by show _=_;rw [List.length_set];exact HBL.out k
       by_cases hql:q<l.told.length
       ·obtain ⟨b',off',had,hb',d0,d1⟩:=(CS.out.was HT1.out).key hql
        subst had
        have HG:=Hid.mk' (goneTo_succ (keysM (toldM l.to X)) l.told hql)
        have AM:=Hid.mk' (among_any (eat l.told q) (keysM (toldM l.to X)) va vk wr (by have:=toldTo_len l.to X X.length;rw [toldTo_all] at this;unfold keysM maxLen;rw [List.length_map];omega) CS.out.nowAt)
        go_wp2_with fail
        refine AM.out.mono ?_
        rintro e w6 ⟨rfl,g6⟩
        have CS6:=Hid.mk' (CS.out.gr g6)
        have d0':=((bcell g6).1 _ (off'+q*2) hb').trans d0
        have d1':=((bcell g6).1 _ (off'+q*2+1) hb').trans d1
        have hb6:b'<w6.heap.size:=g6.lt hb'
        clear g6 AM CS d0 d1 hb'
        cases hst:((keysM (toldM l.to X)).any fun x=>x==eat l.told q) with
        | true =>
         clear d0' d1'
         go_wp2_with fail
         exact ⟨⟨q+1,hql,by simp,by rw [y2,HG.out,if_pos hst,List.append_nil];exact CS6⟩,measM_dec _ _ hql⟩
        | false =>
         obtain ⟨R6,L6,rt6,fr6,hm6,hun6,hqn6⟩:=CS6.out
         have hL6:L6.length=Ls.length:=by rw [← HYL.out, ← hm6,List.length_map]
         have hav:=alat hm6 (k:=k) (by omega)
         rw [HY.out] at hav
         injection hav with hav
         have hlk:=rt6.l.lk
         rw [hL6] at hlk
         obtain ⟨g',off2,eg,hg6,_,_,c2,_⟩:=hlk.rowAt.lnk (j:=k) (by omega)
         injection eg with eg
         injection eg with eg1 eg2
         subst eg1 eg2
         obtain ⟨g',off3,cap3,cur3,eg,_,hgb,_⟩:=hlk.some' (by omega)
         injection eg with eg _ e9
         injection eg with eg
         injection eg with eg1 eg2
         subst eg1 eg2 e9
         have QQ:=rt6.l.qu k (by omega)
         have hql6:(lnat L6 k).q.length≤549757911040:=by
          have:=congrArg List.length (av_eq hav.symm).2.2.1
          have h2:=newTo_len l.to X l.told X.length
          have h3:=goneTo_len (keysM (toldM l.to X)) l.told q
          simp only [List.length_map,y2,Rln.av,List.length_append] at this
          omega
         have t1:=rt6.c1
         have c2':w6.cell? ⟨g,off+k*4+2,none⟩=some (.slice (lnat L6 k).qad (lnat L6 k).q.length (lnat L6 k).qcap):=c2
         have n1:some C.TB≠Value.ownBlock (.slice (lnat L6 k).qad (lnat L6 k).q.length (lnat L6 k).qcap):=fun e=>absurd (QQ.ownTy e.symm rt6.b.t) (by decide)
         have n2:some g≠Value.ownBlock (.slice (lnat L6 k).qad (lnat L6 k).q.length (lnat L6 k).qcap):=fun e=>absurd (QQ.ownTy e.symm hgb) (by decide)
         have n3:some b'≠Value.ownBlock (.slice (lnat L6 k).qad (lnat L6 k).q.length (lnat L6 k).qcap):=fun e=>by
          have r1:=(QQ.own b' e.symm).1
          rcases HT1.out.keep fr6.size (fun k hk hr=>fr6.keep k hk (Or.inr hr)) fr6.same with h0 | ⟨b2,o2,e2,hfx,_⟩
          ·exact absurd h0 (kcells_ne hql)
          ·injection e2 with e2
           injection e2 with e2 _
           subst e2
           rw [hfx] at r1;cases r1
         have CEL:Hid (∀ wz,w6.grownBy wz (Value.ownBlock (.slice (lnat L6 k).qad (lnat L6 k).q.length (lnat L6 k).qcap))→wz.cell? ⟨C.TB,1,none⟩=some (.slice (some ⟨g,off,none⟩) Ls.length lc)∧wz.cell? ⟨g,off+k*4+2,none⟩=some (.slice (lnat L6 k).qad (lnat L6 k).q.length (lnat L6 k).qcap)∧wz.cell? ⟨b',off'+q*2,none⟩=some (.int .i64 (eat l.told q).1)∧wz.cell? ⟨b',off'+q*2+1,none⟩=some (.int .i64 (eat l.told q).2)):=fun wz gg=>by
          have b1:=gg.block _ rt6.tlt n1
          have b2:=gg.block _ hg6 n2
          have b3:=gg.block _ hb6 n3
          exact ⟨by rw [cell_blk b1];exact t1,by rw [cell_blk b2];exact c2',by rw [cell_blk b3];exact d0',by rw [cell_blk b3];exact d1'⟩
         have CFZ:Hid (∀ wz,w6.grownBy wz (Value.ownBlock (.slice (lnat L6 k).qad (lnat L6 k).q.length (lnat L6 k).qcap))→wz.frozen? ⟨g,off+k*4+2,none⟩=false):=fun wz gg=>frz0 ((gg.block _ hg6 n2).trans hgb) _
         have VOW:Hid (∀ i,Value.ownBlock (.slice (lnat L6 k).qad (lnat L6 k).q.length (lnat L6 k).qcap)=some i→i<w6.heap.size):=fun i hi=>(QQ.own i hi).2
         have k0:(0:Int)≤(k:Int):=by omega
         have kl:(k:Int)<(Ls.length:Int):=by omega
         have q0:(0:Int)≤(q:Int):=by omega
         have ql:(q:Int)<(l.told.length:Int):=by omega
         have HRT:=Hid.mk' rt6
         have HFR:=Hid.mk' fr6
         have HM6:=Hid.mk' hm6
         have HU6:=Hid.mk' hun6
         have HN6:=Hid.mk' hqn6
         have HQQ:=Hid.mk' QQ
         clear rt6 fr6 hm6 hun6 hqn6 QQ hav hlk hgb c2 CS6 n1 n2 n3
         go_wp2_with fail
         refine region_D rfl 22 (by rfl) (fun i=>133+i) (fun i _ j _ h=>by omega) (Rsq ⟨C.TB,g,off,Ls.length,lc,k,.slice (lnat L6 k).qad (lnat L6 k).q.length (lnat L6 k).qcap,(lnat L6 k).q.length,(lnat L6 k).q.flatMap rmcells,fun i=>R6 i = .qu k 0,.slice (some ⟨b',off',none⟩) l.told.length l.tcap,.int .i64 q,.pointer (some ⟨b',off'+q*2,none⟩),.agg #[.int .i64 (eat l.told q).1,.int .i64 (eat l.told q).2],.int .i64 2,.int .i64 (eat l.told q).1,.int .i64 (eat l.told q).2,.slice none 0 0,.slice none 0 0,w6⟩) (Ef0 _ 133 22) (Wsq ⟨C.TB,g,off,Ls.length,lc,k,.slice (lnat L6 k).qad (lnat L6 k).q.length (lnat L6 k).qcap,(lnat L6 k).q.length,(lnat L6 k).q.flatMap rmcells,fun i=>R6 i = .qu k 0,.slice (some ⟨b',off',none⟩) l.told.length l.tcap,.int .i64 q,.pointer (some ⟨b',off'+q*2,none⟩),.agg #[.int .i64 (eat l.told q).1,.int .i64 (eat l.told q).2],.int .i64 2,.int .i64 (eat l.told q).1,.int .i64 (eat l.told q).2,.slice none 0 0,.slice none 0 0,w6⟩) (Gsq ⟨C.TB,g,off,Ls.length,lc,k,.slice (lnat L6 k).qad (lnat L6 k).q.length (lnat L6 k).qcap,(lnat L6 k).q.length,(lnat L6 k).q.flatMap rmcells,fun i=>R6 i = .qu k 0,.slice (some ⟨b',off',none⟩) l.told.length l.tcap,.int .i64 q,.pointer (some ⟨b',off'+q*2,none⟩),.agg #[.int .i64 (eat l.told q).1,.int .i64 (eat l.told q).2],.int .i64 2,.int .i64 (eat l.told q).1,.int .i64 (eat l.told q).2,.slice none 0 0,.slice none 0 0,w6⟩) (fun a i x hi h=>Ef0.put (by simp) a i x hi h) (fun a h i hi=>by have:=h.sz (by simp);simp at this;omega) (fun i wa wb h g=>⟨h.1.trans g.g,g.q h.2⟩) (fun i j x wa wb hij h g=>Rsq.keep VOW.out i j x wa wb hij h g) ?front ?last (Ef0.start _ 133 22 (by simp)) ⟨⟨rfl,rfl,rfl,Nat.le_refl _,fun _ _ _=>rfl⟩,HQQ.out.kept fun i _ hP=>⟨rfl,hP⟩⟩
         case front =>
          intro i o a' wz ho hi' hE hW hd K hK
          have gW:=hW.1
          obtain ⟨z1,z2,z3⟩:=CEL.out wz gW
          have t0:a'.tmps[0]?.getD undef = .pointer (some ⟨C.TB,0,none⟩):=(evn a' 0).symm.trans (hE.at_ (by simp) (by omega))
          have t4:a'.tmps[4]?.getD undef = .int .i64 k:=(evn a' 4).symm.trans (hE.at_ (by simp) (by omega))
          have t5:a'.tmps[5]?.getD undef = .slice (some ⟨b',off',none⟩) l.told.length l.tcap:=(evn a' 5).symm.trans (hE.at_ (by simp) (by omega))
          have t11:a'.tmps[11]?.getD undef = .int .i64 q:=(evn a' 11).symm.trans (hE.at_ (by simp) (by omega))
          clear hE
          match i,ho,hi',hd,hK with
          | 0,ho,_,hd,hK =>
           obtain rfl:=Option.some.inj ho
           clear hd z1 z2 z3 hW
           unfold Oper.wp
           go_simp
           exact hK _ _ (Gsq.gr (Gr.refl _)) rfl
          | 1,ho,_,hd,hK =>
           obtain rfl:=Option.some.inj ho
           have e0:a'.eval (.tmp 133) = .pointer (some ⟨C.TB,0,none⟩):=hd ⟨0,.data⟩ (by simp) rfl
           rw [evn] at e0
           clear hd z1 z2 z3 hW
           unfold Oper.wp
           go_simp
           exact hK _ _ (Gsq.gr (Gr.refl _)) rfl
          | 2,ho,_,hd,hK =>
           obtain rfl:=Option.some.inj ho
           have e0:a'.eval (.tmp 134) = .pointer (some ⟨C.TB,0,none⟩):=hd ⟨1,.data⟩ (by simp) rfl
           rw [evn] at e0
           clear hd z1 z2 z3 hW
           unfold Oper.wp
           go_simp
           exact hK _ _ (Gsq.gr (Gr.refl _)) rfl
          | 3,ho,_,hd,hK =>
           obtain rfl:=Option.some.inj ho
           have e0:a'.eval (.tmp 135) = .pointer (some ⟨C.TB,1,none⟩):=hd ⟨2,.data⟩ (by simp) rfl
           rw [evn] at e0
           clear hd hW
           unfold Oper.wp
           go_simp
           exact hK _ _ (Gsq.gr (Gr.refl _)) rfl
          | 4,ho,_,hd,hK =>
           obtain rfl:=Option.some.inj ho
           clear hd z1 z2 z3 hW
           unfold Oper.wp
           go_simp
           exact hK _ _ (Gsq.gr (Gr.refl _)) rfl
          | 5,ho,_,hd,hK =>
           obtain rfl:=Option.some.inj ho
           clear hd z1 z2 z3 hW
           unfold Oper.wp
           go_simp
           exact hK _ _ (Gsq.gr (Gr.refl _)) rfl
          | 6,ho,_,hd,hK =>
           obtain rfl:=Option.some.inj ho
           have e0:a'.eval (.tmp 138) = .pointer (some ⟨C.TB,0,none⟩):=hd ⟨5,.data⟩ (by simp) rfl
           rw [evn] at e0
           clear hd z1 z2 z3 hW
           unfold Oper.wp
           go_simp
           exact hK _ _ (Gsq.gr (Gr.refl _)) rfl
          | 7,ho,_,hd,hK =>
           obtain rfl:=Option.some.inj ho
           have e0:a'.eval (.tmp 139) = .pointer (some ⟨C.TB,0,none⟩):=hd ⟨6,.data⟩ (by simp) rfl
           rw [evn] at e0
           clear hd z1 z2 z3 hW
           unfold Oper.wp
           go_simp
           exact hK _ _ (Gsq.gr (Gr.refl _)) rfl
          | 8,ho,_,hd,hK =>
           obtain rfl:=Option.some.inj ho
           have e0:a'.eval (.tmp 140) = .pointer (some ⟨C.TB,1,none⟩):=hd ⟨7,.data⟩ (by simp) rfl
           rw [evn] at e0
           clear hd hW
           unfold Oper.wp
           go_simp
           exact hK _ _ (Gsq.gr (Gr.refl _)) rfl
          | 9,ho,_,hd,hK =>
           obtain rfl:=Option.some.inj ho
           clear hd z1 z2 z3 hW
           unfold Oper.wp
           go_simp
           exact hK _ _ (Gsq.gr (Gr.refl _)) rfl
          | 10,ho,_,hd,hK =>
           obtain rfl:=Option.some.inj ho
           have e0:a'.eval (.tmp 141) = .slice (some ⟨g,off,none⟩) Ls.length lc:=hd ⟨8,.data⟩ (by simp) rfl
           have e1:a'.eval (.tmp 142) = .int .i64 k:=hd ⟨9,.data⟩ (by simp) rfl
           rw [evn] at e0 e1
           clear hd z1 z2 z3 hW
           unfold Oper.wp
           go_simp
           exact hK _ _ (Gsq.gr (Gr.refl _)) rfl
          | 11,ho,_,hd,hK =>
           obtain rfl:=Option.some.inj ho
           have e0:a'.eval (.tmp 143) = .pointer (some ⟨g,off+k*4,none⟩):=hd ⟨10,.data⟩ (by simp) rfl
           rw [evn] at e0
           clear hd z1 z2 z3 hW
           unfold Oper.wp
           go_simp
           exact hK _ _ (Gsq.gr (Gr.refl _)) rfl
          | 12,ho,_,hd,hK =>
           obtain rfl:=Option.some.inj ho
           have e0:a'.eval (.tmp 144) = .pointer (some ⟨g,off+k*4+2,none⟩):=hd ⟨11,.data⟩ (by simp) rfl
           rw [evn] at e0
           clear hd hW
           unfold Oper.wp
           go_simp
           exact hK _ _ (Gsq.gr (Gr.refl _)) rfl
          | 13,ho,_,hd,hK =>
           obtain rfl:=Option.some.inj ho
           clear hd z1 z2 z3 hW
           unfold Oper.wp
           go_simp
           exact hK _ _ (Gsq.gr (Gr.refl _)) rfl
          | 14,ho,_,hd,hK =>
           obtain rfl:=Option.some.inj ho
           clear hd z1 z2 z3 hW
           unfold Oper.wp
           go_simp
           exact hK _ _ (Gsq.gr (Gr.refl _)) rfl
          | 15,ho,_,hd,hK =>
           obtain rfl:=Option.some.inj ho
           have e0:a'.eval (.tmp 146) = .slice (some ⟨b',off',none⟩) l.told.length l.tcap:=hd ⟨13,.data⟩ (by simp) rfl
           have e1:a'.eval (.tmp 147) = .int .i64 q:=hd ⟨14,.data⟩ (by simp) rfl
           rw [evn] at e0 e1
           clear hd z1 z2 z3 hW
           unfold Oper.wp
           go_simp
           exact hK _ _ (Gsq.gr (Gr.refl _)) rfl
          | 16,ho,_,hd,hK =>
           obtain rfl:=Option.some.inj ho
           have e0:a'.eval (.tmp 148)=(.pointer (some ⟨b',off'+q*2,none⟩):Value):=hd ⟨15,.data⟩ (by simp) rfl
           rw [evn] at e0
           obtain ⟨y0,y1'⟩:=z3
           clear hd hW
           unfold Oper.wp
           go_simp
           exact hK _ _ (Gsq.gr (Gr.refl _)) rfl
          | 17,ho,_,hd,hK =>
           obtain rfl:=Option.some.inj ho
           have e0:a'.eval (.tmp 149) = .agg #[.int .i64 (eat l.told q).1,.int .i64 (eat l.told q).2]:=hd ⟨16,.data⟩ (by simp) rfl
           rw [evn] at e0
           clear hd z1 z2 z3 hW
           unfold Oper.wp
           go_simp
           exact hK _ _ (Gsq.gr (Gr.refl _)) rfl
          | 18,ho,_,hd,hK =>
           obtain rfl:=Option.some.inj ho
           have e0:a'.eval (.tmp 150) = .agg #[.int .i64 2,.int .i64 (eat l.told q).1,.int .i64 (eat l.told q).2,.slice none 0 0,.slice none 0 0]:=hd ⟨17,.data⟩ (by simp) rfl
           rw [evn] at e0
           clear hd z1 z2 z3 hW
           unfold Oper.wp
           go_simp
           exact hK _ _ (Gsq.gr ((Gr.refl _).alloc _)) ⟨_,rfl,gW.size,heap_alloc_new _ _⟩
          | 19,ho,_,hd,hK =>
           obtain rfl:=Option.some.inj ho
           have e0:a'.eval (.tmp 145) = .slice (lnat L6 k).qad (lnat L6 k).q.length (lnat L6 k).qcap:=hd ⟨12,.data⟩ (by simp) rfl
           obtain ⟨gg,e1,hg1,hg2⟩:Rsq ⟨C.TB,g,off,Ls.length,lc,k,.slice (lnat L6 k).qad (lnat L6 k).q.length (lnat L6 k).qcap,(lnat L6 k).q.length,(lnat L6 k).q.flatMap rmcells,fun i=>R6 i = .qu k 0,.slice (some ⟨b',off',none⟩) l.told.length l.tcap,.int .i64 q,.pointer (some ⟨b',off'+q*2,none⟩),.agg #[.int .i64 (eat l.told q).1,.int .i64 (eat l.told q).2],.int .i64 2,.int .i64 (eat l.told q).1,.int .i64 (eat l.told q).2,.slice none 0 0,.slice none 0 0,w6⟩ 18 (a'.eval (.tmp 151)) wz:=hd ⟨18,.data⟩ (by simp) rfl
           refine wp_append_q wz (.tmp 145) (.tmp 151) 193 rfl 209 i0 _ 5 72 Tryz.underlying193 hi hz0 hz1 hz2 rfl _ _ _ _ e0 hW.2 ⟨gg,0,none⟩ 1 1 [.int .i64 2,.int .i64 (eat l.told q).1,.int .i64 (eat l.told q).2,.slice none 0 0,.slice none 0 0] e1 (by omega) rfl (World.news_of_block hg2) (by simp [Value.oneCell']) (by unfold maxLen;show (lnat L6 k).q.length+1≤_;omega) (by show ((lnat L6 k).q.length+1)*72≤_;omega) ?_
           intro v' w' k1 k2 k3 k4
           obtain ⟨sa,sc,hsv⟩:=k1.shape
           refine hK _ _ ⟨k2,fun _=>k4,fun h=>absurd rfl h⟩ ⟨⟨sa,_,sc,hsv⟩,k1,?_⟩
           rcases k3 with k3 | k3
           ·exact Or.inl k3
           ·exact Or.inr ⟨_,gW.size,k3⟩
          | 20,ho,_,hd,hK =>
           obtain rfl:=Option.some.inj ho
           have e0:a'.eval (.tmp 136) = .slice (some ⟨g,off,none⟩) Ls.length lc:=hd ⟨3,.data⟩ (by simp) rfl
           have e1:a'.eval (.tmp 137) = .int .i64 k:=hd ⟨4,.data⟩ (by simp) rfl
           rw [evn] at e0 e1
           clear hd z1 z2 z3 hW
           unfold Oper.wp
           go_simp
           exact hK _ _ (Gsq.gr (Gr.refl _)) rfl
          | 21,ho,_,hd,hK =>
           obtain rfl:=Option.some.inj ho
           have e0:a'.eval (.tmp 153) = .pointer (some ⟨g,off+k*4,none⟩):=hd ⟨20,.data⟩ (by simp) rfl
           rw [evn] at e0
           clear hd z1 z2 z3 hW
           unfold Oper.wp
           go_simp
           exact hK _ _ (Gsq.gr (Gr.refl _)) rfl
          | k'+22,_,hi',_,_=>exact absurd hi' (by omega)
         case last =>
          intro o a' wz ho hE hW hd K hK
          obtain rfl:=Option.some.inj ho
          have gW:=hW.1
          obtain ⟨_,z2,_⟩:=CEL.out wz gW
          have zf:=CFZ.out wz gW
          have e21:a'.eval (.tmp 154) = .pointer (some ⟨g,off+k*4+2,none⟩):=hd 21 (by omega)
          obtain ⟨⟨sa,sn,sc,hsv⟩,k1,k3⟩:Rsq ⟨C.TB,g,off,Ls.length,lc,k,.slice (lnat L6 k).qad (lnat L6 k).q.length (lnat L6 k).qcap,(lnat L6 k).q.length,(lnat L6 k).q.flatMap rmcells,fun i=>R6 i = .qu k 0,.slice (some ⟨b',off',none⟩) l.told.length l.tcap,.int .i64 q,.pointer (some ⟨b',off'+q*2,none⟩),.agg #[.int .i64 (eat l.told q).1,.int .i64 (eat l.told q).2],.int .i64 2,.int .i64 (eat l.told q).1,.int .i64 (eat l.told q).2,.slice none 0 0,.slice none 0 0,w6⟩ 19 (a'.eval (.tmp 152)) wz:=hd 19 (by omega)
          have hdf:=hE.df
          obtain ⟨z,hz,hts⟩:=hE.ts
          have HTS:=Hid.mk' (And.intro hz (And.intro hts hdf))
          clear hz hts hdf
          have kW:Qr wz 209 5 (fun i=>R6 i = .qu k 0) _ _ _:=hW.2
          clear hd hE hW ho
          rw [hsv] at k1 k3
          obtain ⟨sa',sc',hs9⟩:=k1.shape
          injection hs9 with ha9 hn9 hc9
          subst ha9 hn9 hc9
          have FIN:=Hid.mk' (CSt.send HRT.out HFR.out HM6.out HU6.out HN6.out (by omega) (unsM (eat l.told q)) trivial k1 gW kW k3 rfl hL6.symm HY.out)
          rw [set_idem, ← Nat.add_assoc] at FIN
          unfold y2 unsM at FIN
          clear k1 k3 kW gW
          rw [evn] at e21 hsv
          unfold Oper.wp
          go_simp
          refine hK _ _ ?_
          clear e21 hsv hK z2 zf
          obtain ⟨hz,hts,hdf⟩:=HTS.out
          obtain ⟨z0,z1',z2',z3',z4,z5,z6,z7,z8,z9,z10,z11,z12,z13,z14,z15,z16,z17,z18,z19,z20,z21,rfl⟩:=len22 hz
          obtain ⟨tm,df⟩:=a'
          simp only at hts hdf
          subst hts hdf
          clear hz
          simp only [List.take_succ_cons,List.take_zero,List.drop_succ_cons,List.drop_zero,List.cons_append,List.nil_append]
          go_wp2_with fail
          refine ⟨⟨q+1,hql,by simp,?_⟩,measM_dec _ _ hql⟩
          rw [y2,HG.out,if_neg (by rw [hst];exact fun h=>by cases h),List.map_append, ← List.append_assoc,List.map_cons,List.map_nil]
          exact FIN
       ·have hqe:q=l.told.length:=by omega
        subst hqe
        have TL:=Hid.mk' (CS.out.tell HA.out HYL.out hkl HY.out rfl)
        obtain ⟨t1,c3z,fz⟩:wr.cell? ⟨C.TB,1,none⟩=some (.slice (some ⟨g,off,none⟩) Ls.length lc)∧(∃ u,wr.cell? ⟨g,off+k*4+3,none⟩=some u)∧wr.frozen? ⟨g,off+k*4+3,none⟩=false:=by
         obtain ⟨R6,L6,rt6,fr6,hm6,hun6,hqn6⟩:=CS.out
         have hL6:L6.length=Ls.length:=by rw [← HYL.out, ← hm6,List.length_map]
         have hlk:=rt6.l.lk
         rw [hL6] at hlk
         obtain ⟨g',off2,eg,_,_,_,_,c3⟩:=hlk.rowAt.lnk (j:=k) (by omega)
         injection eg with eg
         injection eg with eg1 eg2
         subst eg1 eg2
         obtain ⟨g',off3,cap3,cur3,eg,_,hgb,_⟩:=hlk.some' (by omega)
         injection eg with eg _ e9
         injection eg with eg
         injection eg with eg1 eg2
         subst eg1 eg2 e9
         exact ⟨rt6.c1,⟨_,c3⟩,frz0 hgb _⟩
        obtain ⟨uu,c3z⟩:=c3z
        rw [set_idem, ← Nat.add_assoc] at TL
        have HCH:Hid (chA b X l.av=⟨(y2 l X l.told.length).fr,(y2 l X l.told.length).to,(y2 l X l.told.length).q,keysM (toldM l.to X)⟩):=if_pos e1
        have HB4:=Hid.mk' (HB3.out.trans (by rw [HCH.out]))
        clear CS HY HYL HB3 HCH
        go_wp2_with fail
        exact ⟨⟨k+1,hkl,by simp,by rw [HB4.out];exact TL⟩,measM_dec _ _ hkl⟩
   ·have e1':((l.fr:Int)==(b:Int))=false:=by simp;omega
    have HS:=Hid.mk' (bK_same (b:=b) (X:=X) HB1.out e1)
    clear e1
    go_wp2_with fail
    exact ⟨⟨k+1,hkl,by simp,by rw [HS.out];exact CS.out.next⟩,measM_dec _ _ hkl⟩
  ·have hke:k=Ls.length:=by omega
   subst hke
   obtain ⟨R1,L,rt,fr1,hm,_⟩:=CS.out
   have HF:Hid (∃ R' L',Rt A C R' wr ads Xs (.slice la Ls.length lc) L' cv cs∧Fr R R' w wr∧L'.map Rln.av=Ls.map fun l=>chA b X l.av):=⟨R1,L,rt,fr1,by
    rw [hm, ← List.length_map (f:=Rln.av),bK_all,List.map_map];rfl⟩
   clear rt fr1 hm CS
   go_wp2_with fail
   exact bodyPost_end (v:=.tuple #[]) (by simp [results,Tryz.results97,go_sem]) rfl ⟨rfl,HF.out⟩
end Go.Proofs.YtecnfgikbmcgoaaGreat
