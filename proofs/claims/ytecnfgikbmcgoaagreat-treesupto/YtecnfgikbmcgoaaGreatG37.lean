import Derived.Test.YtecnfgikbmcgoaaGreatG34
namespace Go.Proofs.YtecnfgikbmcgoaaGreat
open Go.RowKit
set_option maxRecDepth 100000 in
set_option maxHeartbeats 4000000 in
theorem St.step1 {A:Nat→Prop} {T:Tc} {C:Rc} {r R:Nat→Rl} {LB PB BB:Nat} {B D:Nat→Prop} {L M:Nat} {w:World} {cs:List (Pc (List Atr))} {s:Ts} (h:St A T C r R LB PB BB B D L M w cs s) (wh a b:Int) (fad:Option Addr) (fn fc:Nat) (ead:Option Addr) (en ec:Nat) {Ch:List (Pc (List Atr))→Ts→Prop} (hb:Both2 A T C r R w cs s 36 59 a b Ch) :
  Calls Tryz.prog 31 #[.pointer (some ⟨PB,0,none⟩),stepV wh 1 a b fad fn fc ead en ec] w fun e w'=>StepP A T C r R LB PB BB B D L M Ch w e w':=by
 obtain ⟨code,cs',s',hcs',HP,HR⟩:=hb
 have HR':=Hid.mk' HR
 have tp:=h.pr.p.b.top
 have OBJ:Hid (∀ (o:Obj) (W:World) (e:Ending) (w':World),Gr w W→W.heap[w.heap.size]? = some o→TfP T r code cs' s' W e w'→e = .returned (.int .i64 code)∧MidP T r cs' s' w w.heap.size o w'):=fun o W e w' g ho hh=>by
  obtain ⟨he,r1,t1,f1⟩:=hh
  exact ⟨he,r1,t1,(Fr.gr g).trans f1,(f1.keep _ (blk_lt ho) (Or.inl (tp _ (Nat.le_refl _)))).trans ho⟩
 have PC:Hid (∀ W,Kx (fun k=>r k ≠ .no) w W→W.cell? ⟨PB,0,none⟩=some (.pointer (some ⟨T.TB,0,none⟩))∧W.cell? ⟨PB,1,none⟩=some (.pointer (some ⟨C.TB,0,none⟩))∧W.cell? ⟨PB,3,none⟩=some (.pointer (some ⟨BB,0,none⟩))):=fun W g=>by
  have b:=(g.keep PB (blk_lt h.pr.pb) (fun e=>e h.pr.np.1)).trans h.pr.pb
  refine ⟨?_,?_,?_⟩ <;> (rw [cell_of_row _ _ _ _ _ _ b];rfl)
 have TPR:Hid (R w.heap.size = .no):=h.pr.q.top.1 _ (Nat.le_refl _)
 have PC2:Hid (∀ W1 W,Kx (fun k=>r k ≠ .no) w W1→Kx (fun k=>R k ≠ .no) W1 W→W.cell? ⟨PB,1,none⟩=some (.pointer (some ⟨C.TB,0,none⟩))):=fun W1 W g1 g2=>by
  have b1:=(g1.keep PB (blk_lt h.pr.pb) (fun e=>e h.pr.np.1)).trans h.pr.pb
  have b:=(g2.keep PB (blk_lt b1) (fun e=>e h.pr.np.2)).trans b1
  rw [cell_of_row _ _ _ _ _ _ b];rfl
 have MID:Hid (∀ r1 w1,Fr r r1 w w1→Rw A C T R w1 cs s):=fun r1 w1 g=>h.pr.mid g
 have BO:Hid (∀ r1 R2 w1 w2,Fr r r1 w w1→Tf T r1 w1 cs' s'→Fr R R2 w1 w2→Rw A C T R2 w2 cs' s'→St A T C r1 R2 LB PB BB B D L M w2 cs' s'∧Kq r R r1 R2 B D w w2):=fun r1 R2 w1 w2 g1 p1 g2 q2=>h.both g1 p1 g2 q2
 have HP':Hid (∀ W,Gr w W→Calls Tryz.prog 36 #[.pointer (some ⟨T.TB,0,none⟩),.int .i64 a,.int .i64 b] W fun e w'=>TfP T r code cs' s' W e w'):=HP
 have HC:=Hid.mk' hcs'
 clear h HP HR hcs' tp
 unfold stepV
 go_enter Tryz.func31,Tryz.ntmps31
 go_wp2_with fail
 generalize hOb:(Obj.cells #[.int .i64 wh,.int .i64 1,.int .i64 a,.int .i64 b,.slice fad fn fc,.slice ead en ec] 93)=ob
 have HOB:Hid (ob = .cells #[.int .i64 wh,.int .i64 1,.int .i64 a,.int .i64 b,.slice fad fn fc,.slice ead en ec] 93 (0,0)):=hOb.symm
 clear hOb
 have G0:=Hid.mk' ((Gr.refl w).alloc ob)
 have B0:Hid ((w.alloc ob).heap[w.heap.size]? = some ob):=heap_alloc_new _ _
 generalize w.alloc ob=W0 at *
 have WW:Hid (∀ t W,(W.heap[w.heap.size]? = some ob∧Kx (fun k=>r k ≠ .no) w W∧(t=false→Gr w W)∧(t=true→MidP T r cs' s' w w.heap.size ob W))→W.cell? ⟨PB,0,none⟩=some (.pointer (some ⟨T.TB,0,none⟩))∧W.cell? ⟨w.heap.size,2,none⟩=some (.int .i64 a)∧W.cell? ⟨w.heap.size,3,none⟩=some (.int .i64 b)):=fun t W h=>by
  obtain ⟨h1,h2,_⟩:=h
  rw [HOB.out] at h1
  refine ⟨(PC.out W h2).1,?_,?_⟩ <;> (rw [cell_of_row _ _ _ _ _ _ h1];rfl)
 refine region_N rfl 9 8 (by decide) (by rfl) (fun i=>14+i) (fun i _ j _ h=>by omega) (RsA PB T.TB w.heap.size a b code) (Ef0 _ 14 9)
  (fun t W=>W.heap[w.heap.size]? = some ob∧Kx (fun k=>r k ≠ .no) w W∧(t=false→Gr w W)∧(t=true→MidP T r cs' s' w w.heap.size ob W))
  (fun i wa wb=>(i≠8→wb=wa)∧(i=8→MidP T r cs' s' w w.heap.size ob wb))
  (fun a i x hi h=>Ef0.put (by simp) a i x hi h) (fun a h i hi=>by have:=h.sz (by simp);simp at this;omega) (fun i t wa wb hi h g=>by rw [g.1 hi];exact h)
  (fun wa wb h g=>by obtain ⟨r1,m1,m2,m3⟩:=g.2 rfl;exact ⟨m3,m2.kx,(fun e=>by cases e),fun _=>⟨r1,m1,m2,m3⟩⟩) (fun i j x wa wb _ h _=>RsA.st j x wa wb h) ?front ?last (Ef0.start _ 14 9 (by simp)) ⟨B0.out,Kx.gr G0.out.drew,fun _=>G0.out.drew,(fun e=>by cases e)⟩
 case front =>
  intro i o a' wz t ho hi' hmt hE hW hd K hK
  have t0:a'.tmps[0]?.getD undef = .pointer (some ⟨PB,0,none⟩):=(evn a' 0).symm.trans (hE.at_ (by simp) (by omega))
  have t3:a'.tmps[3]?.getD undef = .pointer (some ⟨w.heap.size,0,none⟩):=(evn a' 3).symm.trans (hE.at_ (by simp) (by omega))
  obtain ⟨z1,z2,z3⟩:=WW.out t wz hW
  have HW:=Hid.mk' hW
  clear hE hW
  match i,ho,hi',hmt,hd,hK with
  | 0,ho,_,_,hd,hK =>
   obtain rfl:=Option.some.inj ho
   clear hd
   unfold Oper.wp
   go_simp
   exact hK _ _ ⟨fun _=>rfl,(fun e=>by cases e)⟩ rfl
  | 1,ho,_,_,hd,hK =>
   obtain rfl:=Option.some.inj ho
   have e0:a'.eval (.tmp 14) = .pointer (some ⟨PB,0,none⟩):=hd ⟨0,.data⟩ (by simp) rfl
   rw [evn] at e0
   clear hd
   unfold Oper.wp
   go_simp
   exact hK _ _ ⟨fun _=>rfl,(fun e=>by cases e)⟩ rfl
  | 2,ho,_,_,hd,hK =>
   obtain rfl:=Option.some.inj ho
   have e0:a'.eval (.tmp 15) = .pointer (some ⟨PB,0,none⟩):=hd ⟨1,.data⟩ (by simp) rfl
   rw [evn] at e0
   clear hd
   unfold Oper.wp
   go_simp
   exact hK _ _ ⟨fun _=>rfl,(fun e=>by cases e)⟩ rfl
  | 3,ho,_,_,hd,hK =>
   obtain rfl:=Option.some.inj ho
   have e0:a'.eval (.tmp 16) = .pointer (some ⟨PB,0,none⟩):=hd ⟨2,.data⟩ (by simp) rfl
   rw [evn] at e0
   clear hd
   unfold Oper.wp
   go_simp
   exact hK _ _ ⟨fun _=>rfl,(fun e=>by cases e)⟩ rfl
  | 4,ho,_,_,hd,hK =>
   obtain rfl:=Option.some.inj ho
   clear hd
   unfold Oper.wp
   go_simp
   exact hK _ _ ⟨fun _=>rfl,(fun e=>by cases e)⟩ rfl
  | 5,ho,_,_,hd,hK =>
   obtain rfl:=Option.some.inj ho
   have e0:a'.eval (.tmp 18) = .pointer (some ⟨w.heap.size,2,none⟩):=hd ⟨4,.data⟩ (by simp) rfl
   rw [evn] at e0
   clear hd
   unfold Oper.wp
   go_simp
   exact hK _ _ ⟨fun _=>rfl,(fun e=>by cases e)⟩ rfl
  | 6,ho,_,_,hd,hK =>
   obtain rfl:=Option.some.inj ho
   clear hd
   unfold Oper.wp
   go_simp
   exact hK _ _ ⟨fun _=>rfl,(fun e=>by cases e)⟩ rfl
  | 7,ho,_,_,hd,hK =>
   obtain rfl:=Option.some.inj ho
   have e0:a'.eval (.tmp 20) = .pointer (some ⟨w.heap.size,3,none⟩):=hd ⟨6,.data⟩ (by simp) rfl
   rw [evn] at e0
   clear hd
   unfold Oper.wp
   go_simp
   exact hK _ _ ⟨fun _=>rfl,(fun e=>by cases e)⟩ rfl
  | 8,ho,_,hmt,hd,hK =>
   obtain rfl:=Option.some.inj ho
   have e0:a'.eval (.tmp 17) = .pointer (some ⟨T.TB,0,none⟩):=hd ⟨3,.data⟩ (by simp) rfl
   have e1:a'.eval (.tmp 19) = .int .i64 a:=hd ⟨5,.data⟩ (by simp) rfl
   have e2:a'.eval (.tmp 21) = .int .i64 b:=hd ⟨7,.data⟩ (by simp) rfl
   rw [evn] at e0 e1 e2
   have GZ:=Hid.mk' (HW.out.2.2.1 (hmt rfl))
   have CC:=Hid.mk' (HP'.out wz GZ.out)
   have BZ:=Hid.mk' HW.out.1
   clear hd hmt z1 z2 z3 HW
   unfold Oper.wp
   go_simp
   refine CC.out.mono ?_
   intro e w1 hh
   obtain ⟨he,hmid⟩:=OBJ.out ob wz e w1 GZ.out BZ.out hh
   subst he
   have HM:=Hid.mk' hmid
   clear hh hmid CC
   go_simp
   exact hK _ _ ⟨(fun e=>absurd rfl e),fun _=>HM.out⟩ rfl
  | k+9,_,hi',_,_,_=>exact absurd hi' (by omega)
 case last =>
  intro o a' wz ho hE hW hd K hK
  obtain rfl:=Option.some.inj ho
  have e8:a'.eval (.tmp 22) = .int .i64 code:=hd 8 (by omega)
  have hdf:=hE.df
  obtain ⟨z,hz,hts⟩:=hE.ts
  have HTS:=Hid.mk' (And.intro hz (And.intro hts hdf))
  have HM:=Hid.mk' (hW.2.2.2 rfl)
  clear hz hts hdf hd hE ho hW
  rw [evn] at e8
  unfold Oper.wp
  go_simp
  refine hK _ _ ?_
  clear hK
  obtain ⟨hz,hts,hdf⟩:=HTS.out
  obtain ⟨z0,z1,z2,z3,z4,z5,z6,z7,z8,rfl⟩:∃ z0 z1 z2 z3 z4 z5 z6 z7 z8,z=[z0,z1,z2,z3,z4,z5,z6,z7,z8]:=by
   match z,hz with
   | [z0,z1,z2,z3,z4,z5,z6,z7,z8],_=>exact ⟨z0,z1,z2,z3,z4,z5,z6,z7,z8,rfl⟩
  obtain ⟨tm,df⟩:=a'
  simp only at hts hdf
  subst hts hdf
  clear hz HTS
  simp only [List.take_succ_cons,List.take_zero,List.drop_succ_cons,List.drop_zero,List.cons_append,List.nil_append]
  obtain ⟨r1,m1,m2,m3⟩:=HM.out
  have M1:=Hid.mk' m1
  have M2:=Hid.mk' m2
  have M3:=Hid.mk' m3
  have RM:=Hid.mk' (MID.out r1 wz m2)
  have WW2:Hid (∀ W,Kx (fun k=>R k ≠ .no) wz W→W.heap[w.heap.size]? = some ob∧W.cell? ⟨PB,1,none⟩=some (.pointer (some ⟨C.TB,0,none⟩))∧W.cell? ⟨w.heap.size,2,none⟩=some (.int .i64 a)∧W.cell? ⟨w.heap.size,3,none⟩=some (.int .i64 b)):=fun W g=>by
   have h1:=(g.keep _ (blk_lt m3) (fun e=>e TPR.out)).trans m3
   have h2:=h1
   rw [HOB.out] at h2
   refine ⟨h1,PC2.out wz W m2.kx g,?_,?_⟩ <;> (rw [cell_of_row _ _ _ _ _ _ h2];rfl)
  clear m1 m2 m3 HM WW PC MID
  go_wp2_with fail
  refine region_N rfl 12 10 (by decide) (by rfl) (fun i=>23+i) (fun i _ j _ h=>by omega) (RsB PB C.TB w.heap.size a b code) (Ef0 _ 23 12)
   (fun t W=>Kx (fun k=>R k ≠ .no) wz W∧(t=false→Gr wz W)∧(t=true → ∃ R2,Rw A C T R2 W cs' s'∧Fr R R2 wz W))
   (fun i wa wb=>(i≠10→wb=wa)∧(i=10 → ∃ R2,Rw A C T R2 wb cs' s'∧Fr R R2 wz wb))
   (fun a i x hi h=>Ef0.put (by simp) a i x hi h) (fun a h i hi=>by have:=h.sz (by simp);simp at this;omega) (fun i t wa wb hi h g=>by rw [g.1 hi];exact h)
   (fun wa wb h g=>by obtain ⟨R2,m1,m2⟩:=g.2 rfl;exact ⟨m2.kx,(fun e=>by cases e),fun _=>⟨R2,m1,m2⟩⟩) (fun i j x wa wb _ h _=>RsB.st j x wa wb h) ?front2 ?last2 (Ef0.start _ 23 12 (by simp)) ⟨Kx.gr (Gr.refl wz).drew,fun _=>(Gr.refl wz).drew,(fun e=>by cases e)⟩
  case front2 =>
   intro i o a' wy t ho hi' hmt hE hW hd K hK
   have t0:a'.tmps[0]?.getD undef = .pointer (some ⟨PB,0,none⟩):=(evn a' 0).symm.trans (hE.at_ (by simp) (by omega))
   have t3:a'.tmps[3]?.getD undef = .pointer (some ⟨w.heap.size,0,none⟩):=(evn a' 3).symm.trans (hE.at_ (by simp) (by omega))
   have t5:a'.tmps[5]?.getD undef = .int .i64 code:=(evn a' 5).symm.trans (hE.at_ (by simp) (by omega))
   obtain ⟨_,z1,z2,z3⟩:=WW2.out wy hW.1
   have HW:=Hid.mk' hW
   clear hE hW
   match i,ho,hi',hmt,hd,hK with
   | 0,ho,_,_,hd,hK =>
    obtain rfl:=Option.some.inj ho
    clear hd
    unfold Oper.wp
    go_simp
    exact hK _ _ ⟨fun _=>rfl,(fun e=>by cases e)⟩ rfl
   | 1,ho,_,_,hd,hK =>
    obtain rfl:=Option.some.inj ho
    have e0:a'.eval (.tmp 23) = .int .i64 code:=hd ⟨0,.data⟩ (by simp) rfl
    rw [evn] at e0
    clear hd
    unfold Oper.wp
    go_simp
    refine (num_any code wy).mono ?_
    rintro e w5 ⟨rfl,hw5⟩
    go_simp
    exact hK _ _ ⟨fun _=>rfl,(fun e=>by cases e)⟩ rfl
   | 2,ho,_,_,hd,hK =>
    obtain rfl:=Option.some.inj ho
    clear hd
    unfold Oper.wp
    go_simp
    exact hK _ _ ⟨fun _=>rfl,(fun e=>by cases e)⟩ rfl
   | 3,ho,_,_,hd,hK =>
    obtain rfl:=Option.some.inj ho
    have e0:a'.eval (.tmp 25) = .pointer (some ⟨PB,0,none⟩):=hd ⟨2,.data⟩ (by simp) rfl
    rw [evn] at e0
    clear hd
    unfold Oper.wp
    go_simp
    exact hK _ _ ⟨fun _=>rfl,(fun e=>by cases e)⟩ rfl
   | 4,ho,_,_,hd,hK =>
    obtain rfl:=Option.some.inj ho
    have e0:a'.eval (.tmp 26) = .pointer (some ⟨PB,0,none⟩):=hd ⟨3,.data⟩ (by simp) rfl
    rw [evn] at e0
    clear hd
    unfold Oper.wp
    go_simp
    exact hK _ _ ⟨fun _=>rfl,(fun e=>by cases e)⟩ rfl
   | 5,ho,_,_,hd,hK =>
    obtain rfl:=Option.some.inj ho
    have e0:a'.eval (.tmp 27) = .pointer (some ⟨PB,1,none⟩):=hd ⟨4,.data⟩ (by simp) rfl
    rw [evn] at e0
    clear hd
    unfold Oper.wp
    go_simp
    exact hK _ _ ⟨fun _=>rfl,(fun e=>by cases e)⟩ rfl
   | 6,ho,_,_,hd,hK =>
    obtain rfl:=Option.some.inj ho
    clear hd
    unfold Oper.wp
    go_simp
    exact hK _ _ ⟨fun _=>rfl,(fun e=>by cases e)⟩ rfl
   | 7,ho,_,_,hd,hK =>
    obtain rfl:=Option.some.inj ho
    have e0:a'.eval (.tmp 29) = .pointer (some ⟨w.heap.size,2,none⟩):=hd ⟨6,.data⟩ (by simp) rfl
    rw [evn] at e0
    clear hd
    unfold Oper.wp
    go_simp
    exact hK _ _ ⟨fun _=>rfl,(fun e=>by cases e)⟩ rfl
   | 8,ho,_,_,hd,hK =>
    obtain rfl:=Option.some.inj ho
    clear hd
    unfold Oper.wp
    go_simp
    exact hK _ _ ⟨fun _=>rfl,(fun e=>by cases e)⟩ rfl
   | 9,ho,_,_,hd,hK =>
    obtain rfl:=Option.some.inj ho
    have e0:a'.eval (.tmp 31) = .pointer (some ⟨w.heap.size,3,none⟩):=hd ⟨8,.data⟩ (by simp) rfl
    rw [evn] at e0
    clear hd
    unfold Oper.wp
    go_simp
    exact hK _ _ ⟨fun _=>rfl,(fun e=>by cases e)⟩ rfl
   | 10,ho,_,hmt,hd,hK =>
    obtain rfl:=Option.some.inj ho
    have e0:a'.eval (.tmp 28) = .pointer (some ⟨C.TB,0,none⟩):=hd ⟨5,.data⟩ (by simp) rfl
    have e1:a'.eval (.tmp 30) = .int .i64 a:=hd ⟨7,.data⟩ (by simp) rfl
    have e2:a'.eval (.tmp 32) = .int .i64 b:=hd ⟨9,.data⟩ (by simp) rfl
    rw [evn] at e0 e1 e2
    have GZ:=Hid.mk' (HW.out.2.1 (hmt rfl))
    have CC:=Hid.mk' (HR'.out wy (RM.out.gr GZ.out))
    clear hd hmt z1 z2 z3 HW
    unfold Oper.wp
    go_simp
    refine CC.out.mono ?_
    rintro e w5 ⟨he,R2,q1,q2⟩
    subst he
    have HM:Hid (∃ R2,Rw A C T R2 w5 cs' s'∧Fr R R2 wz w5):=⟨R2,q1,(Fr.gr GZ.out).trans q2⟩
    clear q1 q2 CC
    go_simp
    exact hK _ _ ⟨(fun e=>absurd rfl e),fun _=>HM.out⟩ rfl
   | 11,ho,_,_,hd,hK =>
    obtain rfl:=Option.some.inj ho
    have e0:a'.eval (.tmp 24) = .int .i64 code:=hd ⟨1,.data⟩ (by simp) rfl
    rw [evn] at e0
    have e1:a'.eval (.tmp 33) = .int .i64 code:=hd ⟨10,.data⟩ (by simp) rfl
    rw [evn] at e1
    clear hd
    unfold Oper.wp
    go_simp
    exact hK _ _ ⟨fun _=>rfl,(fun e=>by cases e)⟩ rfl
   | k+12,_,hi',_,_,_=>exact absurd hi' (by omega)
  case last2 =>
   intro o a' wy ho hE hW hd K hK
   obtain rfl:=Option.some.inj ho
   have e11:a'.eval (.tmp 34) = .bool true:=hd 11 (by omega)
   have hdf:=hE.df
   obtain ⟨R2,q1,q2⟩:=hW.2.2 rfl
   have FIN:=Hid.mk' (BO.out r1 R2 wz wy M2.out M1.out q2 q1)
   obtain ⟨z,hz,hts⟩:=hE.ts
   have HTS:=Hid.mk' (And.intro hz (And.intro hts hdf))
   clear hz hts hdf hd hE ho hW q1 q2
   rw [evn] at e11
   unfold Oper.wp
   go_simp
   refine hK _ _ ?_
   clear hK
   obtain ⟨hz,hts,hdf⟩:=HTS.out
   obtain ⟨y0,y1,y2,y3,y4,y5,y6,y7,y8,y9,y10,y11,rfl⟩:∃ y0 y1 y2 y3 y4 y5 y6 y7 y8 y9 y10 y11,z=[y0,y1,y2,y3,y4,y5,y6,y7,y8,y9,y10,y11]:=by
    match z,hz with
    | [y0,y1,y2,y3,y4,y5,y6,y7,y8,y9,y10,y11],_=>exact ⟨y0,y1,y2,y3,y4,y5,y6,y7,y8,y9,y10,y11,rfl⟩
   obtain ⟨tm,df⟩:=a'
   simp only at hts hdf
   subst hts hdf
   clear hz HTS
   simp only [List.take_succ_cons,List.take_zero,List.drop_succ_cons,List.drop_zero,List.cons_append,List.nil_append]
   go_wp2_with fail
   go_ret
   exact ⟨rfl,r1,R2,cs',s',HC.out,FIN.out⟩
set_option maxRecDepth 100000 in
set_option maxHeartbeats 4000000 in
theorem St.step3 {A:Nat→Prop} {T:Tc} {C:Rc} {r R:Nat→Rl} {LB PB BB:Nat} {B D:Nat→Prop} {L M:Nat} {w:World} {cs:List (Pc (List Atr))} {s:Ts} (h:St A T C r R LB PB BB B D L M w cs s) (wh a b:Int) (fad:Option Addr) (fn fc:Nat) (ead:Option Addr) (en ec:Nat) {Ch:List (Pc (List Atr))→Ts→Prop} (hb:Both2 A T C r R w cs s 18 62 a b Ch) :
  Calls Tryz.prog 31 #[.pointer (some ⟨PB,0,none⟩),stepV wh 3 a b fad fn fc ead en ec] w fun e w'=>StepP A T C r R LB PB BB B D L M Ch w e w':=by
 obtain ⟨code,cs',s',hcs',HP,HR⟩:=hb
 have HR':=Hid.mk' HR
 have tp:=h.pr.p.b.top
 have OBJ:Hid (∀ (o:Obj) (W:World) (e:Ending) (w':World),Gr w W→W.heap[w.heap.size]? = some o→TfP T r code cs' s' W e w'→e = .returned (.int .i64 code)∧MidP T r cs' s' w w.heap.size o w'):=fun o W e w' g ho hh=>by
  obtain ⟨he,r1,t1,f1⟩:=hh
  exact ⟨he,r1,t1,(Fr.gr g).trans f1,(f1.keep _ (blk_lt ho) (Or.inl (tp _ (Nat.le_refl _)))).trans ho⟩
 have PC:Hid (∀ W,Kx (fun k=>r k ≠ .no) w W→W.cell? ⟨PB,0,none⟩=some (.pointer (some ⟨T.TB,0,none⟩))∧W.cell? ⟨PB,1,none⟩=some (.pointer (some ⟨C.TB,0,none⟩))∧W.cell? ⟨PB,3,none⟩=some (.pointer (some ⟨BB,0,none⟩))):=fun W g=>by
  have b:=(g.keep PB (blk_lt h.pr.pb) (fun e=>e h.pr.np.1)).trans h.pr.pb
  refine ⟨?_,?_,?_⟩ <;> (rw [cell_of_row _ _ _ _ _ _ b];rfl)
 have TPR:Hid (R w.heap.size = .no):=h.pr.q.top.1 _ (Nat.le_refl _)
 have PC2:Hid (∀ W1 W,Kx (fun k=>r k ≠ .no) w W1→Kx (fun k=>R k ≠ .no) W1 W→W.cell? ⟨PB,1,none⟩=some (.pointer (some ⟨C.TB,0,none⟩))):=fun W1 W g1 g2=>by
  have b1:=(g1.keep PB (blk_lt h.pr.pb) (fun e=>e h.pr.np.1)).trans h.pr.pb
  have b:=(g2.keep PB (blk_lt b1) (fun e=>e h.pr.np.2)).trans b1
  rw [cell_of_row _ _ _ _ _ _ b];rfl
 have MID:Hid (∀ r1 w1,Fr r r1 w w1→Rw A C T R w1 cs s):=fun r1 w1 g=>h.pr.mid g
 have BO:Hid (∀ r1 R2 w1 w2,Fr r r1 w w1→Tf T r1 w1 cs' s'→Fr R R2 w1 w2→Rw A C T R2 w2 cs' s'→St A T C r1 R2 LB PB BB B D L M w2 cs' s'∧Kq r R r1 R2 B D w w2):=fun r1 R2 w1 w2 g1 p1 g2 q2=>h.both g1 p1 g2 q2
 have HP':Hid (∀ W,Gr w W→Calls Tryz.prog 18 #[.pointer (some ⟨T.TB,0,none⟩),.int .i64 a,.int .i64 b] W fun e w'=>TfP T r code cs' s' W e w'):=HP
 have HC:=Hid.mk' hcs'
 clear h HP HR hcs' tp
 unfold stepV
 go_enter Tryz.func31,Tryz.ntmps31
 go_wp2_with fail
 generalize hOb:(Obj.cells #[.int .i64 wh,.int .i64 3,.int .i64 a,.int .i64 b,.slice fad fn fc,.slice ead en ec] 93)=ob
 have HOB:Hid (ob = .cells #[.int .i64 wh,.int .i64 3,.int .i64 a,.int .i64 b,.slice fad fn fc,.slice ead en ec] 93 (0,0)):=hOb.symm
 clear hOb
 have G0:=Hid.mk' ((Gr.refl w).alloc ob)
 have B0:Hid ((w.alloc ob).heap[w.heap.size]? = some ob):=heap_alloc_new _ _
 generalize w.alloc ob=W0 at *
 have WW:Hid (∀ t W,(W.heap[w.heap.size]? = some ob∧Kx (fun k=>r k ≠ .no) w W∧(t=false→Gr w W)∧(t=true→MidP T r cs' s' w w.heap.size ob W))→W.cell? ⟨PB,0,none⟩=some (.pointer (some ⟨T.TB,0,none⟩))∧W.cell? ⟨w.heap.size,2,none⟩=some (.int .i64 a)∧W.cell? ⟨w.heap.size,3,none⟩=some (.int .i64 b)):=fun t W h=>by
  obtain ⟨h1,h2,_⟩:=h
  rw [HOB.out] at h1
  refine ⟨(PC.out W h2).1,?_,?_⟩ <;> (rw [cell_of_row _ _ _ _ _ _ h1];rfl)
 refine region_N rfl 9 8 (by decide) (by rfl) (fun i=>69+i) (fun i _ j _ h=>by omega) (RsA PB T.TB w.heap.size a b code) (Ef0 _ 69 9)
  (fun t W=>W.heap[w.heap.size]? = some ob∧Kx (fun k=>r k ≠ .no) w W∧(t=false→Gr w W)∧(t=true→MidP T r cs' s' w w.heap.size ob W))
  (fun i wa wb=>(i≠8→wb=wa)∧(i=8→MidP T r cs' s' w w.heap.size ob wb))
  (fun a i x hi h=>Ef0.put (by simp) a i x hi h) (fun a h i hi=>by have:=h.sz (by simp);simp at this;omega) (fun i t wa wb hi h g=>by rw [g.1 hi];exact h)
  (fun wa wb h g=>by obtain ⟨r1,m1,m2,m3⟩:=g.2 rfl;exact ⟨m3,m2.kx,(fun e=>by cases e),fun _=>⟨r1,m1,m2,m3⟩⟩) (fun i j x wa wb _ h _=>RsA.st j x wa wb h) ?front ?last (Ef0.start _ 69 9 (by simp)) ⟨B0.out,Kx.gr G0.out.drew,fun _=>G0.out.drew,(fun e=>by cases e)⟩
 case front =>
  intro i o a' wz t ho hi' hmt hE hW hd K hK
  have t0:a'.tmps[0]?.getD undef = .pointer (some ⟨PB,0,none⟩):=(evn a' 0).symm.trans (hE.at_ (by simp) (by omega))
  have t3:a'.tmps[3]?.getD undef = .pointer (some ⟨w.heap.size,0,none⟩):=(evn a' 3).symm.trans (hE.at_ (by simp) (by omega))
  obtain ⟨z1,z2,z3⟩:=WW.out t wz hW
  have HW:=Hid.mk' hW
  clear hE hW
  match i,ho,hi',hmt,hd,hK with
  | 0,ho,_,_,hd,hK =>
   obtain rfl:=Option.some.inj ho
   clear hd
   unfold Oper.wp
   go_simp
   exact hK _ _ ⟨fun _=>rfl,(fun e=>by cases e)⟩ rfl
  | 1,ho,_,_,hd,hK =>
   obtain rfl:=Option.some.inj ho
   have e0:a'.eval (.tmp 69) = .pointer (some ⟨PB,0,none⟩):=hd ⟨0,.data⟩ (by simp) rfl
   rw [evn] at e0
   clear hd
   unfold Oper.wp
   go_simp
   exact hK _ _ ⟨fun _=>rfl,(fun e=>by cases e)⟩ rfl
  | 2,ho,_,_,hd,hK =>
   obtain rfl:=Option.some.inj ho
   have e0:a'.eval (.tmp 70) = .pointer (some ⟨PB,0,none⟩):=hd ⟨1,.data⟩ (by simp) rfl
   rw [evn] at e0
   clear hd
   unfold Oper.wp
   go_simp
   exact hK _ _ ⟨fun _=>rfl,(fun e=>by cases e)⟩ rfl
  | 3,ho,_,_,hd,hK =>
   obtain rfl:=Option.some.inj ho
   have e0:a'.eval (.tmp 71) = .pointer (some ⟨PB,0,none⟩):=hd ⟨2,.data⟩ (by simp) rfl
   rw [evn] at e0
   clear hd
   unfold Oper.wp
   go_simp
   exact hK _ _ ⟨fun _=>rfl,(fun e=>by cases e)⟩ rfl
  | 4,ho,_,_,hd,hK =>
   obtain rfl:=Option.some.inj ho
   clear hd
   unfold Oper.wp
   go_simp
   exact hK _ _ ⟨fun _=>rfl,(fun e=>by cases e)⟩ rfl
  | 5,ho,_,_,hd,hK =>
   obtain rfl:=Option.some.inj ho
   have e0:a'.eval (.tmp 73) = .pointer (some ⟨w.heap.size,2,none⟩):=hd ⟨4,.data⟩ (by simp) rfl
   rw [evn] at e0
   clear hd
   unfold Oper.wp
   go_simp
   exact hK _ _ ⟨fun _=>rfl,(fun e=>by cases e)⟩ rfl
  | 6,ho,_,_,hd,hK =>
   obtain rfl:=Option.some.inj ho
   clear hd
   unfold Oper.wp
   go_simp
   exact hK _ _ ⟨fun _=>rfl,(fun e=>by cases e)⟩ rfl
  | 7,ho,_,_,hd,hK =>
   obtain rfl:=Option.some.inj ho
   have e0:a'.eval (.tmp 75) = .pointer (some ⟨w.heap.size,3,none⟩):=hd ⟨6,.data⟩ (by simp) rfl
   rw [evn] at e0
   clear hd
   unfold Oper.wp
   go_simp
   exact hK _ _ ⟨fun _=>rfl,(fun e=>by cases e)⟩ rfl
  | 8,ho,_,hmt,hd,hK =>
   obtain rfl:=Option.some.inj ho
   have e0:a'.eval (.tmp 72) = .pointer (some ⟨T.TB,0,none⟩):=hd ⟨3,.data⟩ (by simp) rfl
   have e1:a'.eval (.tmp 74) = .int .i64 a:=hd ⟨5,.data⟩ (by simp) rfl
   have e2:a'.eval (.tmp 76) = .int .i64 b:=hd ⟨7,.data⟩ (by simp) rfl
   rw [evn] at e0 e1 e2
   have GZ:=Hid.mk' (HW.out.2.2.1 (hmt rfl))
   have CC:=Hid.mk' (HP'.out wz GZ.out)
   have BZ:=Hid.mk' HW.out.1
   clear hd hmt z1 z2 z3 HW
   unfold Oper.wp
   go_simp
   refine CC.out.mono ?_
   intro e w1 hh
   obtain ⟨he,hmid⟩:=OBJ.out ob wz e w1 GZ.out BZ.out hh
   subst he
   have HM:=Hid.mk' hmid
   clear hh hmid CC
   go_simp
   exact hK _ _ ⟨(fun e=>absurd rfl e),fun _=>HM.out⟩ rfl
  | k+9,_,hi',_,_,_=>exact absurd hi' (by omega)
 case last =>
  intro o a' wz ho hE hW hd K hK
  obtain rfl:=Option.some.inj ho
  have e8:a'.eval (.tmp 77) = .int .i64 code:=hd 8 (by omega)
  have hdf:=hE.df
  obtain ⟨z,hz,hts⟩:=hE.ts
  have HTS:=Hid.mk' (And.intro hz (And.intro hts hdf))
  have HM:=Hid.mk' (hW.2.2.2 rfl)
  clear hz hts hdf hd hE ho hW
  rw [evn] at e8
  unfold Oper.wp
  go_simp
  refine hK _ _ ?_
  clear hK
  obtain ⟨hz,hts,hdf⟩:=HTS.out
  obtain ⟨z0,z1,z2,z3,z4,z5,z6,z7,z8,rfl⟩:∃ z0 z1 z2 z3 z4 z5 z6 z7 z8,z=[z0,z1,z2,z3,z4,z5,z6,z7,z8]:=by
   match z,hz with
   | [z0,z1,z2,z3,z4,z5,z6,z7,z8],_=>exact ⟨z0,z1,z2,z3,z4,z5,z6,z7,z8,rfl⟩
  obtain ⟨tm,df⟩:=a'
  simp only at hts hdf
  subst hts hdf
  clear hz HTS
  simp only [List.take_succ_cons,List.take_zero,List.drop_succ_cons,List.drop_zero,List.cons_append,List.nil_append]
  obtain ⟨r1,m1,m2,m3⟩:=HM.out
  have M1:=Hid.mk' m1
  have M2:=Hid.mk' m2
  have M3:=Hid.mk' m3
  have RM:=Hid.mk' (MID.out r1 wz m2)
  have WW2:Hid (∀ W,Kx (fun k=>R k ≠ .no) wz W→W.heap[w.heap.size]? = some ob∧W.cell? ⟨PB,1,none⟩=some (.pointer (some ⟨C.TB,0,none⟩))∧W.cell? ⟨w.heap.size,2,none⟩=some (.int .i64 a)∧W.cell? ⟨w.heap.size,3,none⟩=some (.int .i64 b)):=fun W g=>by
   have h1:=(g.keep _ (blk_lt m3) (fun e=>e TPR.out)).trans m3
   have h2:=h1
   rw [HOB.out] at h2
   refine ⟨h1,PC2.out wz W m2.kx g,?_,?_⟩ <;> (rw [cell_of_row _ _ _ _ _ _ h2];rfl)
  clear m1 m2 m3 HM WW PC MID
  go_wp2_with fail
  refine region_N rfl 12 10 (by decide) (by rfl) (fun i=>78+i) (fun i _ j _ h=>by omega) (RsB PB C.TB w.heap.size a b code) (Ef0 _ 78 12)
   (fun t W=>Kx (fun k=>R k ≠ .no) wz W∧(t=false→Gr wz W)∧(t=true → ∃ R2,Rw A C T R2 W cs' s'∧Fr R R2 wz W))
   (fun i wa wb=>(i≠10→wb=wa)∧(i=10 → ∃ R2,Rw A C T R2 wb cs' s'∧Fr R R2 wz wb))
   (fun a i x hi h=>Ef0.put (by simp) a i x hi h) (fun a h i hi=>by have:=h.sz (by simp);simp at this;omega) (fun i t wa wb hi h g=>by rw [g.1 hi];exact h)
   (fun wa wb h g=>by obtain ⟨R2,m1,m2⟩:=g.2 rfl;exact ⟨m2.kx,(fun e=>by cases e),fun _=>⟨R2,m1,m2⟩⟩) (fun i j x wa wb _ h _=>RsB.st j x wa wb h) ?front2 ?last2 (Ef0.start _ 78 12 (by simp)) ⟨Kx.gr (Gr.refl wz).drew,fun _=>(Gr.refl wz).drew,(fun e=>by cases e)⟩
  case front2 =>
   intro i o a' wy t ho hi' hmt hE hW hd K hK
   have t0:a'.tmps[0]?.getD undef = .pointer (some ⟨PB,0,none⟩):=(evn a' 0).symm.trans (hE.at_ (by simp) (by omega))
   have t3:a'.tmps[3]?.getD undef = .pointer (some ⟨w.heap.size,0,none⟩):=(evn a' 3).symm.trans (hE.at_ (by simp) (by omega))
   have t5:a'.tmps[7]?.getD undef = .int .i64 code:=(evn a' 7).symm.trans (hE.at_ (by simp) (by omega))
   obtain ⟨_,z1,z2,z3⟩:=WW2.out wy hW.1
   have HW:=Hid.mk' hW
   clear hE hW
   match i,ho,hi',hmt,hd,hK with
   | 0,ho,_,_,hd,hK =>
    obtain rfl:=Option.some.inj ho
    clear hd
    unfold Oper.wp
    go_simp
    exact hK _ _ ⟨fun _=>rfl,(fun e=>by cases e)⟩ rfl
   | 1,ho,_,_,hd,hK =>
    obtain rfl:=Option.some.inj ho
    have e0:a'.eval (.tmp 78) = .int .i64 code:=hd ⟨0,.data⟩ (by simp) rfl
    rw [evn] at e0
    clear hd
    unfold Oper.wp
    go_simp
    refine (num_any code wy).mono ?_
    rintro e w5 ⟨rfl,hw5⟩
    go_simp
    exact hK _ _ ⟨fun _=>rfl,(fun e=>by cases e)⟩ rfl
   | 2,ho,_,_,hd,hK =>
    obtain rfl:=Option.some.inj ho
    clear hd
    unfold Oper.wp
    go_simp
    exact hK _ _ ⟨fun _=>rfl,(fun e=>by cases e)⟩ rfl
   | 3,ho,_,_,hd,hK =>
    obtain rfl:=Option.some.inj ho
    have e0:a'.eval (.tmp 80) = .pointer (some ⟨PB,0,none⟩):=hd ⟨2,.data⟩ (by simp) rfl
    rw [evn] at e0
    clear hd
    unfold Oper.wp
    go_simp
    exact hK _ _ ⟨fun _=>rfl,(fun e=>by cases e)⟩ rfl
   | 4,ho,_,_,hd,hK =>
    obtain rfl:=Option.some.inj ho
    have e0:a'.eval (.tmp 81) = .pointer (some ⟨PB,0,none⟩):=hd ⟨3,.data⟩ (by simp) rfl
    rw [evn] at e0
    clear hd
    unfold Oper.wp
    go_simp
    exact hK _ _ ⟨fun _=>rfl,(fun e=>by cases e)⟩ rfl
   | 5,ho,_,_,hd,hK =>
    obtain rfl:=Option.some.inj ho
    have e0:a'.eval (.tmp 82) = .pointer (some ⟨PB,1,none⟩):=hd ⟨4,.data⟩ (by simp) rfl
    rw [evn] at e0
    clear hd
    unfold Oper.wp
    go_simp
    exact hK _ _ ⟨fun _=>rfl,(fun e=>by cases e)⟩ rfl
   | 6,ho,_,_,hd,hK =>
    obtain rfl:=Option.some.inj ho
    clear hd
    unfold Oper.wp
    go_simp
    exact hK _ _ ⟨fun _=>rfl,(fun e=>by cases e)⟩ rfl
   | 7,ho,_,_,hd,hK =>
    obtain rfl:=Option.some.inj ho
    have e0:a'.eval (.tmp 84) = .pointer (some ⟨w.heap.size,2,none⟩):=hd ⟨6,.data⟩ (by simp) rfl
    rw [evn] at e0
    clear hd
    unfold Oper.wp
    go_simp
    exact hK _ _ ⟨fun _=>rfl,(fun e=>by cases e)⟩ rfl
   | 8,ho,_,_,hd,hK =>
    obtain rfl:=Option.some.inj ho
    clear hd
    unfold Oper.wp
    go_simp
    exact hK _ _ ⟨fun _=>rfl,(fun e=>by cases e)⟩ rfl
   | 9,ho,_,_,hd,hK =>
    obtain rfl:=Option.some.inj ho
    have e0:a'.eval (.tmp 86) = .pointer (some ⟨w.heap.size,3,none⟩):=hd ⟨8,.data⟩ (by simp) rfl
    rw [evn] at e0
    clear hd
    unfold Oper.wp
    go_simp
    exact hK _ _ ⟨fun _=>rfl,(fun e=>by cases e)⟩ rfl
   | 10,ho,_,hmt,hd,hK =>
    obtain rfl:=Option.some.inj ho
    have e0:a'.eval (.tmp 83) = .pointer (some ⟨C.TB,0,none⟩):=hd ⟨5,.data⟩ (by simp) rfl
    have e1:a'.eval (.tmp 85) = .int .i64 a:=hd ⟨7,.data⟩ (by simp) rfl
    have e2:a'.eval (.tmp 87) = .int .i64 b:=hd ⟨9,.data⟩ (by simp) rfl
    rw [evn] at e0 e1 e2
    have GZ:=Hid.mk' (HW.out.2.1 (hmt rfl))
    have CC:=Hid.mk' (HR'.out wy (RM.out.gr GZ.out))
    clear hd hmt z1 z2 z3 HW
    unfold Oper.wp
    go_simp
    refine CC.out.mono ?_
    rintro e w5 ⟨he,R2,q1,q2⟩
    subst he
    have HM:Hid (∃ R2,Rw A C T R2 w5 cs' s'∧Fr R R2 wz w5):=⟨R2,q1,(Fr.gr GZ.out).trans q2⟩
    clear q1 q2 CC
    go_simp
    exact hK _ _ ⟨(fun e=>absurd rfl e),fun _=>HM.out⟩ rfl
   | 11,ho,_,_,hd,hK =>
    obtain rfl:=Option.some.inj ho
    have e0:a'.eval (.tmp 79) = .int .i64 code:=hd ⟨1,.data⟩ (by simp) rfl
    rw [evn] at e0
    have e1:a'.eval (.tmp 88) = .int .i64 code:=hd ⟨10,.data⟩ (by simp) rfl
    rw [evn] at e1
    clear hd
    unfold Oper.wp
    go_simp
    exact hK _ _ ⟨fun _=>rfl,(fun e=>by cases e)⟩ rfl
   | k+12,_,hi',_,_,_=>exact absurd hi' (by omega)
  case last2 =>
   intro o a' wy ho hE hW hd K hK
   obtain rfl:=Option.some.inj ho
   have e11:a'.eval (.tmp 89) = .bool true:=hd 11 (by omega)
   have hdf:=hE.df
   obtain ⟨R2,q1,q2⟩:=hW.2.2 rfl
   have FIN:=Hid.mk' (BO.out r1 R2 wz wy M2.out M1.out q2 q1)
   obtain ⟨z,hz,hts⟩:=hE.ts
   have HTS:=Hid.mk' (And.intro hz (And.intro hts hdf))
   clear hz hts hdf hd hE ho hW q1 q2
   rw [evn] at e11
   unfold Oper.wp
   go_simp
   refine hK _ _ ?_
   clear hK
   obtain ⟨hz,hts,hdf⟩:=HTS.out
   obtain ⟨y0,y1,y2,y3,y4,y5,y6,y7,y8,y9,y10,y11,rfl⟩:∃ y0 y1 y2 y3 y4 y5 y6 y7 y8 y9 y10 y11,z=[y0,y1,y2,y3,y4,y5,y6,y7,y8,y9,y10,y11]:=by
    match z,hz with
    | [y0,y1,y2,y3,y4,y5,y6,y7,y8,y9,y10,y11],_=>exact ⟨y0,y1,y2,y3,y4,y5,y6,y7,y8,y9,y10,y11,rfl⟩
   obtain ⟨tm,df⟩:=a'
   simp only at hts hdf
   subst hts hdf
   clear hz HTS
   simp only [List.take_succ_cons,List.take_zero,List.drop_succ_cons,List.drop_zero,List.cons_append,List.nil_append]
   go_wp2_with fail
   go_ret
   exact ⟨rfl,r1,R2,cs',s',HC.out,FIN.out⟩
end Go.Proofs.YtecnfgikbmcgoaaGreat
