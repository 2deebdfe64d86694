import Derived.Test.YtecnfgikbmcgoaaGreatG34
import Derived.Test.YtecnfgikbmcgoaaGreatG35
import Derived.Test.YtecnfgikbmcgoaaGreatG36
import Derived.Test.YtecnfgikbmcgoaaGreatG37
namespace Go.Proofs.YtecnfgikbmcgoaaGreat
open Go.RowKit
set_option maxRecDepth 100000 in
set_option maxHeartbeats 4000000 in
theorem St.step5 {A:Nat→Prop} {T:Tc} {C:Rc} {r R:Nat→Rl} {LB PB BB:Nat} {B D:Nat→Prop} {L M:Nat} {w:World} {cs:List (Pc (List Atr))} {s:Ts} (h:St A T C r R LB PB BB B D L M w cs s) (wh a b:Int) (fad:Option Addr) (fn fc:Nat) (ead:Option Addr) (en ec:Nat) {Ch:List (Pc (List Atr))→Ts→Prop} (hb:Both2 A T C r R w cs s 37 65 a b Ch) :
  Calls Tryz.prog 31 #[.pointer (some ⟨PB,0,none⟩),stepV wh 5 a b fad fn fc ead en ec] w fun e w'=>StepP A T C r R LB PB BB B D L M Ch w e w':=by
 obtain ⟨code,cs',s',hcs',HP,HR⟩:=hb
 have HR':=Hid.mk' HR
 have tp:=h.pr.p.b.top
 have OBJ:Hid (∀ (o:Obj) (W:World) (e:Ending) (w':World),Gr w W→W.heap[w.heap.size]? = some o→TfP T r code cs' s' W e w'→e = .returned (.int .i64 code)∧MidP T r cs' s' w w.heap.size o w'):=fun o W e w' g ho hh=>by
  obtain ⟨he,r1,t1,f1⟩:=hh
  exact ⟨he,r1,t1,(Fr.gr g).trans f1,(f1.keep _ (blk_lt ho) (Or.inl (tp _ (Nat.le_refl _)))).trans ho⟩
 have PC:Hid (∀ W,Kx (fun k=>r k ≠ .no) w W→W.cell? ⟨PB,0,none⟩=some (.pointer (some ⟨T.TB,0,none⟩))∧W.cell? ⟨PB,1,none⟩=some (.pointer (some ⟨C.TB,0,none⟩))∧W.cell? ⟨PB,3,none⟩=some (.pointer (some ⟨BB,0,none⟩))):=fun W g=>by
  have b:=(g.keep PB (blk_lt h.pr.pb) (fun e=>e h.pr.np.1)).trans h.pr.pb
  refine ⟨?_,?_,?_⟩ <;> (rw [cell_of_row _ _ _ _ _ _ b];rfl)
 have TPR:Hid (R w.heap.size = .no):=h.pr.q.top.1 _ (Nat.le_refl _)
 have PC2:Hid (∀ W1 W,Kx (fun k=>r k ≠ .no) w W1→Kx (fun k=>R k ≠ .no) W1 W→W.cell? ⟨PB,1,none⟩=some (.pointer (some ⟨C.TB,0,none⟩))):=fun W1 W g1 g2=>by
  have b1:=(g1.keep PB (blk_lt h.pr.pb) (fun e=>e h.pr.np.1)).trans h.pr.pb
  have b:=(g2.keep PB (blk_lt b1) (fun e=>e h.pr.np.2)).trans b1
  rw [cell_of_row _ _ _ _ _ _ b];rfl
 have MID:Hid (∀ r1 w1,Fr r r1 w w1→Rw A C T R w1 cs s):=fun r1 w1 g=>h.pr.mid g
 have BO:Hid (∀ r1 R2 w1 w2,Fr r r1 w w1→Tf T r1 w1 cs' s'→Fr R R2 w1 w2→Rw A C T R2 w2 cs' s'→St A T C r1 R2 LB PB BB B D L M w2 cs' s'∧Kq r R r1 R2 B D w w2):=fun r1 R2 w1 w2 g1 p1 g2 q2=>h.both g1 p1 g2 q2
 have HP':Hid (∀ W,Gr w W→Calls Tryz.prog 37 #[.pointer (some ⟨T.TB,0,none⟩),.int .i64 a,.int .i64 b] W fun e w'=>TfP T r code cs' s' W e w'):=HP
 have HC:=Hid.mk' hcs'
 clear h HP HR hcs' tp
 unfold stepV
 go_enter Tryz.func31,Tryz.ntmps31
 go_wp2_with fail
 generalize hOb:(Obj.cells #[.int .i64 wh,.int .i64 5,.int .i64 a,.int .i64 b,.slice fad fn fc,.slice ead en ec] 93)=ob
 have HOB:Hid (ob = .cells #[.int .i64 wh,.int .i64 5,.int .i64 a,.int .i64 b,.slice fad fn fc,.slice ead en ec] 93 (0,0)):=hOb.symm
 clear hOb
 have G0:=Hid.mk' ((Gr.refl w).alloc ob)
 have B0:Hid ((w.alloc ob).heap[w.heap.size]? = some ob):=heap_alloc_new _ _
 generalize w.alloc ob=W0 at *
 have WW:Hid (∀ t W,(W.heap[w.heap.size]? = some ob∧Kx (fun k=>r k ≠ .no) w W∧(t=false→Gr w W)∧(t=true→MidP T r cs' s' w w.heap.size ob W))→W.cell? ⟨PB,0,none⟩=some (.pointer (some ⟨T.TB,0,none⟩))∧W.cell? ⟨w.heap.size,2,none⟩=some (.int .i64 a)∧W.cell? ⟨w.heap.size,3,none⟩=some (.int .i64 b)):=fun t W h=>by
  obtain ⟨h1,h2,_⟩:=h
  rw [HOB.out] at h1
  refine ⟨(PC.out W h2).1,?_,?_⟩ <;> (rw [cell_of_row _ _ _ _ _ _ h1];rfl)
 refine region_N rfl 9 8 (by decide) (by rfl) (fun i=>120+i) (fun i _ j _ h=>by omega) (RsA PB T.TB w.heap.size a b code) (Ef0 _ 120 9)
  (fun t W=>W.heap[w.heap.size]? = some ob∧Kx (fun k=>r k ≠ .no) w W∧(t=false→Gr w W)∧(t=true→MidP T r cs' s' w w.heap.size ob W))
  (fun i wa wb=>(i≠8→wb=wa)∧(i=8→MidP T r cs' s' w w.heap.size ob wb))
  (fun a i x hi h=>Ef0.put (by simp) a i x hi h) (fun a h i hi=>by have:=h.sz (by simp);simp at this;omega) (fun i t wa wb hi h g=>by rw [g.1 hi];exact h)
  (fun wa wb h g=>by obtain ⟨r1,m1,m2,m3⟩:=g.2 rfl;exact ⟨m3,m2.kx,(fun e=>by cases e),fun _=>⟨r1,m1,m2,m3⟩⟩) (fun i j x wa wb _ h _=>RsA.st j x wa wb h) ?front ?last (Ef0.start _ 120 9 (by simp)) ⟨B0.out,Kx.gr G0.out.drew,fun _=>G0.out.drew,(fun e=>by cases e)⟩
 case front =>
  intro i o a' wz t ho hi' hmt hE hW hd K hK
  have t0:a'.tmps[0]?.getD undef = .pointer (some ⟨PB,0,none⟩):=(evn a' 0).symm.trans (hE.at_ (by simp) (by omega))
  have t3:a'.tmps[3]?.getD undef = .pointer (some ⟨w.heap.size,0,none⟩):=(evn a' 3).symm.trans (hE.at_ (by simp) (by omega))
  obtain ⟨z1,z2,z3⟩:=WW.out t wz hW
  have HW:=Hid.mk' hW
  clear hE hW
  match i,ho,hi',hmt,hd,hK with
  | 0,ho,_,_,hd,hK =>
   obtain rfl:=Option.some.inj ho
   clear hd
   unfold Oper.wp
   go_simp
   exact hK _ _ ⟨fun _=>rfl,(fun e=>by cases e)⟩ rfl
  | 1,ho,_,_,hd,hK =>
   obtain rfl:=Option.some.inj ho
   have e0:a'.eval (.tmp 120) = .pointer (some ⟨PB,0,none⟩):=hd ⟨0,.data⟩ (by simp) rfl
   rw [evn] at e0
   clear hd
   unfold Oper.wp
   go_simp
   exact hK _ _ ⟨fun _=>rfl,(fun e=>by cases e)⟩ rfl
  | 2,ho,_,_,hd,hK =>
   obtain rfl:=Option.some.inj ho
   have e0:a'.eval (.tmp 121) = .pointer (some ⟨PB,0,none⟩):=hd ⟨1,.data⟩ (by simp) rfl
   rw [evn] at e0
   clear hd
   unfold Oper.wp
   go_simp
   exact hK _ _ ⟨fun _=>rfl,(fun e=>by cases e)⟩ rfl
  | 3,ho,_,_,hd,hK =>
   obtain rfl:=Option.some.inj ho
   have e0:a'.eval (.tmp 122) = .pointer (some ⟨PB,0,none⟩):=hd ⟨2,.data⟩ (by simp) rfl
   rw [evn] at e0
   clear hd
   unfold Oper.wp
   go_simp
   exact hK _ _ ⟨fun _=>rfl,(fun e=>by cases e)⟩ rfl
  | 4,ho,_,_,hd,hK =>
   obtain rfl:=Option.some.inj ho
   clear hd
   unfold Oper.wp
   go_simp
   exact hK _ _ ⟨fun _=>rfl,(fun e=>by cases e)⟩ rfl
  | 5,ho,_,_,hd,hK =>
   obtain rfl:=Option.some.inj ho
   have e0:a'.eval (.tmp 124) = .pointer (some ⟨w.heap.size,2,none⟩):=hd ⟨4,.data⟩ (by simp) rfl
   rw [evn] at e0
   clear hd
   unfold Oper.wp
   go_simp
   exact hK _ _ ⟨fun _=>rfl,(fun e=>by cases e)⟩ rfl
  | 6,ho,_,_,hd,hK =>
   obtain rfl:=Option.some.inj ho
   clear hd
   unfold Oper.wp
   go_simp
   exact hK _ _ ⟨fun _=>rfl,(fun e=>by cases e)⟩ rfl
  | 7,ho,_,_,hd,hK =>
   obtain rfl:=Option.some.inj ho
   have e0:a'.eval (.tmp 126) = .pointer (some ⟨w.heap.size,3,none⟩):=hd ⟨6,.data⟩ (by simp) rfl
   rw [evn] at e0
   clear hd
   unfold Oper.wp
   go_simp
   exact hK _ _ ⟨fun _=>rfl,(fun e=>by cases e)⟩ rfl
  | 8,ho,_,hmt,hd,hK =>
   obtain rfl:=Option.some.inj ho
   have e0:a'.eval (.tmp 123) = .pointer (some ⟨T.TB,0,none⟩):=hd ⟨3,.data⟩ (by simp) rfl
   have e1:a'.eval (.tmp 125) = .int .i64 a:=hd ⟨5,.data⟩ (by simp) rfl
   have e2:a'.eval (.tmp 127) = .int .i64 b:=hd ⟨7,.data⟩ (by simp) rfl
   rw [evn] at e0 e1 e2
   have GZ:=Hid.mk' (HW.out.2.2.1 (hmt rfl))
   have CC:=Hid.mk' (HP'.out wz GZ.out)
   have BZ:=Hid.mk' HW.out.1
   clear hd hmt z1 z2 z3 HW
   unfold Oper.wp
   go_simp
   refine CC.out.mono ?_
   intro e w1 hh
   obtain ⟨he,hmid⟩:=OBJ.out ob wz e w1 GZ.out BZ.out hh
   subst he
   have HM:=Hid.mk' hmid
   clear hh hmid CC
   go_simp
   exact hK _ _ ⟨(fun e=>absurd rfl e),fun _=>HM.out⟩ rfl
  | k+9,_,hi',_,_,_=>exact absurd hi' (by omega)
 case last =>
  intro o a' wz ho hE hW hd K hK
  obtain rfl:=Option.some.inj ho
  have e8:a'.eval (.tmp 128) = .int .i64 code:=hd 8 (by omega)
  have hdf:=hE.df
  obtain ⟨z,hz,hts⟩:=hE.ts
  have HTS:=Hid.mk' (And.intro hz (And.intro hts hdf))
  have HM:=Hid.mk' (hW.2.2.2 rfl)
  clear hz hts hdf hd hE ho hW
  rw [evn] at e8
  unfold Oper.wp
  go_simp
  refine hK _ _ ?_
  clear hK
  obtain ⟨hz,hts,hdf⟩:=HTS.out
  obtain ⟨z0,z1,z2,z3,z4,z5,z6,z7,z8,rfl⟩:∃ z0 z1 z2 z3 z4 z5 z6 z7 z8,z=[z0,z1,z2,z3,z4,z5,z6,z7,z8]:=by
   match z,hz with
   | [z0,z1,z2,z3,z4,z5,z6,z7,z8],_=>exact ⟨z0,z1,z2,z3,z4,z5,z6,z7,z8,rfl⟩
  obtain ⟨tm,df⟩:=a'
  simp only at hts hdf
  subst hts hdf
  clear hz HTS
  simp only [List.take_succ_cons,List.take_zero,List.drop_succ_cons,List.drop_zero,List.cons_append,List.nil_append]
  obtain ⟨r1,m1,m2,m3⟩:=HM.out
  have M1:=Hid.mk' m1
  have M2:=Hid.mk' m2
  have M3:=Hid.mk' m3
  have RM:=Hid.mk' (MID.out r1 wz m2)
  have WW2:Hid (∀ W,Kx (fun k=>R k ≠ .no) wz W→W.heap[w.heap.size]? = some ob∧W.cell? ⟨PB,1,none⟩=some (.pointer (some ⟨C.TB,0,none⟩))∧W.cell? ⟨w.heap.size,2,none⟩=some (.int .i64 a)∧W.cell? ⟨w.heap.size,3,none⟩=some (.int .i64 b)):=fun W g=>by
   have h1:=(g.keep _ (blk_lt m3) (fun e=>e TPR.out)).trans m3
   have h2:=h1
   rw [HOB.out] at h2
   refine ⟨h1,PC2.out wz W m2.kx g,?_,?_⟩ <;> (rw [cell_of_row _ _ _ _ _ _ h2];rfl)
  clear m1 m2 m3 HM WW PC MID
  go_wp2_with fail
  refine region_N rfl 12 10 (by decide) (by rfl) (fun i=>129+i) (fun i _ j _ h=>by omega) (RsB PB C.TB w.heap.size a b code) (Ef0 _ 129 12)
   (fun t W=>Kx (fun k=>R k ≠ .no) wz W∧(t=false→Gr wz W)∧(t=true → ∃ R2,Rw A C T R2 W cs' s'∧Fr R R2 wz W))
   (fun i wa wb=>(i≠10→wb=wa)∧(i=10 → ∃ R2,Rw A C T R2 wb cs' s'∧Fr R R2 wz wb))
   (fun a i x hi h=>Ef0.put (by simp) a i x hi h) (fun a h i hi=>by have:=h.sz (by simp);simp at this;omega) (fun i t wa wb hi h g=>by rw [g.1 hi];exact h)
   (fun wa wb h g=>by obtain ⟨R2,m1,m2⟩:=g.2 rfl;exact ⟨m2.kx,(fun e=>by cases e),fun _=>⟨R2,m1,m2⟩⟩) (fun i j x wa wb _ h _=>RsB.st j x wa wb h) ?front2 ?last2 (Ef0.start _ 129 12 (by simp)) ⟨Kx.gr (Gr.refl wz).drew,fun _=>(Gr.refl wz).drew,(fun e=>by cases e)⟩
  case front2 =>
   intro i o a' wy t ho hi' hmt hE hW hd K hK
   have t0:a'.tmps[0]?.getD undef = .pointer (some ⟨PB,0,none⟩):=(evn a' 0).symm.trans (hE.at_ (by simp) (by omega))
   have t3:a'.tmps[3]?.getD undef = .pointer (some ⟨w.heap.size,0,none⟩):=(evn a' 3).symm.trans (hE.at_ (by simp) (by omega))
   have t5:a'.tmps[9]?.getD undef = .int .i64 code:=(evn a' 9).symm.trans (hE.at_ (by simp) (by omega))
   obtain ⟨_,z1,z2,z3⟩:=WW2.out wy hW.1
   have HW:=Hid.mk' hW
   clear hE hW
   match i,ho,hi',hmt,hd,hK with
   | 0,ho,_,_,hd,hK =>
    obtain rfl:=Option.some.inj ho
    clear hd
    unfold Oper.wp
    go_simp
    exact hK _ _ ⟨fun _=>rfl,(fun e=>by cases e)⟩ rfl
   | 1,ho,_,_,hd,hK =>
    obtain rfl:=Option.some.inj ho
    have e0:a'.eval (.tmp 129) = .int .i64 code:=hd ⟨0,.data⟩ (by simp) rfl
    rw [evn] at e0
    clear hd
    unfold Oper.wp
    go_simp
    refine (num_any code wy).mono ?_
    rintro e w5 ⟨rfl,hw5⟩
    go_simp
    exact hK _ _ ⟨fun _=>rfl,(fun e=>by cases e)⟩ rfl
   | 2,ho,_,_,hd,hK =>
    obtain rfl:=Option.some.inj ho
    clear hd
    unfold Oper.wp
    go_simp
    exact hK _ _ ⟨fun _=>rfl,(fun e=>by cases e)⟩ rfl
   | 3,ho,_,_,hd,hK =>
    obtain rfl:=Option.some.inj ho
    have e0:a'.eval (.tmp 131) = .pointer (some ⟨PB,0,none⟩):=hd ⟨2,.data⟩ (by simp) rfl
    rw [evn] at e0
    clear hd
    unfold Oper.wp
    go_simp
    exact hK _ _ ⟨fun _=>rfl,(fun e=>by cases e)⟩ rfl
   | 4,ho,_,_,hd,hK =>
    obtain rfl:=Option.some.inj ho
    have e0:a'.eval (.tmp 132) = .pointer (some ⟨PB,0,none⟩):=hd ⟨3,.data⟩ (by simp) rfl
    rw [evn] at e0
    clear hd
    unfold Oper.wp
    go_simp
    exact hK _ _ ⟨fun _=>rfl,(fun e=>by cases e)⟩ rfl
   | 5,ho,_,_,hd,hK =>
    obtain rfl:=Option.some.inj ho
    have e0:a'.eval (.tmp 133) = .pointer (some ⟨PB,1,none⟩):=hd ⟨4,.data⟩ (by simp) rfl
    rw [evn] at e0
    clear hd
    unfold Oper.wp
    go_simp
    exact hK _ _ ⟨fun _=>rfl,(fun e=>by cases e)⟩ rfl
   | 6,ho,_,_,hd,hK =>
    obtain rfl:=Option.some.inj ho
    clear hd
    unfold Oper.wp
    go_simp
    exact hK _ _ ⟨fun _=>rfl,(fun e=>by cases e)⟩ rfl
   | 7,ho,_,_,hd,hK =>
    obtain rfl:=Option.some.inj ho
    have e0:a'.eval (.tmp 135) = .pointer (some ⟨w.heap.size,2,none⟩):=hd ⟨6,.data⟩ (by simp) rfl
    rw [evn] at e0
    clear hd
    unfold Oper.wp
    go_simp
    exact hK _ _ ⟨fun _=>rfl,(fun e=>by cases e)⟩ rfl
   | 8,ho,_,_,hd,hK =>
    obtain rfl:=Option.some.inj ho
    clear hd
    unfold Oper.wp
    go_simp
    exact hK _ _ ⟨fun _=>rfl,(fun e=>by cases e)⟩ rfl
   | 9,ho,_,_,hd,hK =>
    obtain rfl:=Option.some.inj ho
    have e0:a'.eval (.tmp 137) = .pointer (some ⟨w.heap.size,3,none⟩):=hd ⟨8,.data⟩ (by simp) rfl
    rw [evn] at e0
    clear hd
    unfold Oper.wp
    go_simp
    exact hK _ _ ⟨fun _=>rfl,(fun e=>by cases e)⟩ rfl
   | 10,ho,_,hmt,hd,hK =>
    obtain rfl:=Option.some.inj ho
    have e0:a'.eval (.tmp 134) = .pointer (some ⟨C.TB,0,none⟩):=hd ⟨5,.data⟩ (by simp) rfl
    have e1:a'.eval (.tmp 136) = .int .i64 a:=hd ⟨7,.data⟩ (by simp) rfl
    have e2:a'.eval (.tmp 138) = .int .i64 b:=hd ⟨9,.data⟩ (by simp) rfl
    rw [evn] at e0 e1 e2
    have GZ:=Hid.mk' (HW.out.2.1 (hmt rfl))
    have CC:=Hid.mk' (HR'.out wy (RM.out.gr GZ.out))
    clear hd hmt z1 z2 z3 HW
    unfold Oper.wp
    go_simp
    refine CC.out.mono ?_
    rintro e w5 ⟨he,R2,q1,q2⟩
    subst he
    have HM:Hid (∃ R2,Rw A C T R2 w5 cs' s'∧Fr R R2 wz w5):=⟨R2,q1,(Fr.gr GZ.out).trans q2⟩
    clear q1 q2 CC
    go_simp
    exact hK _ _ ⟨(fun e=>absurd rfl e),fun _=>HM.out⟩ rfl
   | 11,ho,_,_,hd,hK =>
    obtain rfl:=Option.some.inj ho
    have e0:a'.eval (.tmp 130) = .int .i64 code:=hd ⟨1,.data⟩ (by simp) rfl
    rw [evn] at e0
    have e1:a'.eval (.tmp 139) = .int .i64 code:=hd ⟨10,.data⟩ (by simp) rfl
    rw [evn] at e1
    clear hd
    unfold Oper.wp
    go_simp
    exact hK _ _ ⟨fun _=>rfl,(fun e=>by cases e)⟩ rfl
   | k+12,_,hi',_,_,_=>exact absurd hi' (by omega)
  case last2 =>
   intro o a' wy ho hE hW hd K hK
   obtain rfl:=Option.some.inj ho
   have e11:a'.eval (.tmp 140) = .bool true:=hd 11 (by omega)
   have hdf:=hE.df
   obtain ⟨R2,q1,q2⟩:=hW.2.2 rfl
   have FIN:=Hid.mk' (BO.out r1 R2 wz wy M2.out M1.out q2 q1)
   obtain ⟨z,hz,hts⟩:=hE.ts
   have HTS:=Hid.mk' (And.intro hz (And.intro hts hdf))
   clear hz hts hdf hd hE ho hW q1 q2
   rw [evn] at e11
   unfold Oper.wp
   go_simp
   refine hK _ _ ?_
   clear hK
   obtain ⟨hz,hts,hdf⟩:=HTS.out
   obtain ⟨y0,y1,y2,y3,y4,y5,y6,y7,y8,y9,y10,y11,rfl⟩:∃ y0 y1 y2 y3 y4 y5 y6 y7 y8 y9 y10 y11,z=[y0,y1,y2,y3,y4,y5,y6,y7,y8,y9,y10,y11]:=by
    match z,hz with
    | [y0,y1,y2,y3,y4,y5,y6,y7,y8,y9,y10,y11],_=>exact ⟨y0,y1,y2,y3,y4,y5,y6,y7,y8,y9,y10,y11,rfl⟩
   obtain ⟨tm,df⟩:=a'
   simp only at hts hdf
   subst hts hdf
   clear hz HTS
   simp only [List.take_succ_cons,List.take_zero,List.drop_succ_cons,List.drop_zero,List.cons_append,List.nil_append]
   go_wp2_with fail
   go_ret
   exact ⟨rfl,r1,R2,cs',s',HC.out,FIN.out⟩
def RsD (PB TB CB:Nat) (code:Int) (j:Nat) (x:Value) (_:World):Prop :=
 match j with
 | 0=>x = .pointer (some ⟨PB,0,none⟩)
 | 1=>x = .pointer (some ⟨PB,0,none⟩)
 | 2=>x = .pointer (some ⟨PB,0,none⟩)
 | 3=>x = .pointer (some ⟨TB,0,none⟩)
 | 4=>x = .int .i64 code
 | 5=>x = .pointer (some ⟨PB,0,none⟩)
 | 6=>x = .pointer (some ⟨PB,0,none⟩)
 | 7=>x = .pointer (some ⟨PB,1,none⟩)
 | 8=>x = .pointer (some ⟨CB,0,none⟩)
 | 9=>x = .int .i64 code
 | 10=>x = .bool true
 | _=>True
theorem RsD.st {PB TB CB:Nat} {code:Int} (j:Nat) (x:Value) (wa wb:World) (h:RsD PB TB CB code j x wa):RsD PB TB CB code j x wb:=by
 match j,h with
 | 0,h=>exact h
 | 1,h=>exact h
 | 2,h=>exact h
 | 3,h=>exact h
 | 4,h=>exact h
 | 5,h=>exact h
 | 6,h=>exact h
 | 7,h=>exact h
 | 8,h=>exact h
 | 9,h=>exact h
 | 10,h=>exact h
 | _+11,_=>trivial
def PbP (PB TB CB:Nat) (W:World):Prop:=W.cell? ⟨PB,0,none⟩=some (.pointer (some ⟨TB,0,none⟩))∧W.cell? ⟨PB,1,none⟩=some (.pointer (some ⟨CB,0,none⟩))
def MdP (T:Tc) (r:Nat→Rl) (cs':List (Pc (List Atr))) (s':Ts) (w w1:World):Prop:=∃ r1,Tf T r1 w1 cs' s'∧Fr r r1 w w1
def AfP (A:Nat→Prop) (C:Rc) (T:Tc) (r R:Nat→Rl) (cs':List (Pc (List Atr))) (s':Ts) (w w2:World):Prop:=∃ r1 R2 w1,Tf T r1 w1 cs' s'∧Fr r r1 w w1∧Rw A C T R2 w2 cs' s'∧Fr R R2 w1 w2
set_option maxRecDepth 100000 in
set_option maxHeartbeats 4000000 in
theorem St.step6 {A:Nat→Prop} {T:Tc} {C:Rc} {r R:Nat→Rl} {LB PB BB:Nat} {B D:Nat→Prop} {L M:Nat} {w:World} {cs:List (Pc (List Atr))} {s:Ts} (h:St A T C r R LB PB BB B D L M w cs s) (wh a b:Int) (fad:Option Addr) (fn fc:Nat) (ead:Option Addr) (en ec:Nat) {Ch:List (Pc (List Atr))→Ts→Prop} (hb:Both0 A T C r R w cs s 14 66 Ch) :
  Calls Tryz.prog 31 #[.pointer (some ⟨PB,0,none⟩),stepV wh 6 a b fad fn fc ead en ec] w fun e w'=>StepP A T C r R LB PB BB B D L M Ch w e w':=by
 obtain ⟨code,cs',s',hcs',HP,HR⟩:=hb
 have HR':Hid (∀ W,Rw A C T R W cs s→Calls Tryz.prog 66 #[.pointer (some ⟨C.TB,0,none⟩)] W fun e w'=>RwP A C T R code cs' s' W e w'):=HR
 have HP':Hid (∀ W,Gr w W→Calls Tryz.prog 14 #[.pointer (some ⟨T.TB,0,none⟩)] W fun e w'=>TfP T r code cs' s' W e w'):=HP
 have PC0:Hid (∀ W,Gr w W→PbP PB T.TB C.TB W):=fun W g=>by
  have b:=blk_gr g h.pr.pb
  refine ⟨?_,?_⟩ <;> (rw [cell_of_row _ _ _ _ _ _ b];rfl)
 have PC1:Hid (∀ r1 W,Fr r r1 w W→PbP PB T.TB C.TB W):=fun r1 W g=>by
  have b:=(g.keep PB (blk_lt h.pr.pb) (Or.inl h.pr.np.1)).trans h.pr.pb
  refine ⟨?_,?_⟩ <;> (rw [cell_of_row _ _ _ _ _ _ b];rfl)
 have PC2:Hid (∀ r1 R2 W1 W,Fr r r1 w W1→Fr R R2 W1 W→PbP PB T.TB C.TB W):=fun r1 R2 W1 W g1 g2=>by
  have b1:=(g1.keep PB (blk_lt h.pr.pb) (Or.inl h.pr.np.1)).trans h.pr.pb
  have b:=(g2.keep PB (blk_lt b1) (Or.inl h.pr.np.2)).trans b1
  refine ⟨?_,?_⟩ <;> (rw [cell_of_row _ _ _ _ _ _ b];rfl)
 have MID:Hid (∀ r1 w1,Fr r r1 w w1→Rw A C T R w1 cs s):=fun r1 w1 g=>h.pr.mid g
 have BO:Hid (∀ w2,AfP A C T r R cs' s' w w2 → ∃ r1 R2,St A T C r1 R2 LB PB BB B D L M w2 cs' s'∧Kq r R r1 R2 B D w w2):=fun w2 ⟨r1,R2,w1,p1,g1,q2,g2⟩=>⟨r1,R2,h.both g1 p1 g2 q2⟩
 have HC:=Hid.mk' hcs'
 clear h HP HR hcs'
 unfold stepV
 go_enter Tryz.func31,Tryz.ntmps31
 go_wp2_with fail
 have G0:=Hid.mk' ((Gr.refl w).alloc (Obj.cells #[.int .i64 wh,.int .i64 6,.int .i64 a,.int .i64 b,.slice fad fn fc,.slice ead en ec] 93))
 generalize w.alloc (Obj.cells #[.int .i64 wh,.int .i64 6,.int .i64 a,.int .i64 b,.slice fad fn fc,.slice ead en ec] 93)=W0 at *
 refine region_L rfl 11 (by rfl) (fun i=>143+i) (fun i _ j _ h=>by omega) (RsD PB T.TB C.TB code) (Ef0 _ 143 11)
  (fun l W=>PbP PB T.TB C.TB W∧(l 4=false→Gr w W)∧(l 4=true→l 9=false→MdP T r cs' s' w W)∧(l 9=true→AfP A C T r R cs' s' w W))
  (fun i wa wb=>(i≠4→i≠9→wb=wa)∧(i=4→MdP T r cs' s' w wb)∧(i=9→AfP A C T r R cs' s' w wb))
  (fun a i x hi h=>Ef0.put (by simp) a i x hi h) (fun a h i hi=>by have:=h.sz (by simp);simp at this;omega) ?hw (fun i j x wa wb _ h _=>RsD.st j x wa wb h) ?front ?last (Ef0.start _ 143 11 (by simp)) ⟨PC0.out _ G0.out.drew,fun _=>G0.out.drew,(fun e=>by cases e),(fun e=>by cases e)⟩
 case hw =>
  intro i l wa wb hi hli hcl hwt hW hg
  by_cases h4:i=4
  ·subst h4
   have l9:l 9=false:=by
    cases e9:l 9 with
    | false=>rfl
    | true =>
     have:=hcl 9 _ rfl e9 ⟨4,.chain⟩ (by simp) rfl
     simp only at this
     rw [this] at hli;cases hli
   have hm:=hg.2.1 rfl
   obtain ⟨r1,m1,m2⟩:=hm
   refine ⟨PC1.out r1 wb m2,(fun e=>by simp [done] at e),fun _ _=>⟨r1,m1,m2⟩,fun e=>?_⟩
   simp [done,l9] at e
  ·by_cases h9:i=9
   ·subst h9
    have l4:l 4=true:=hwt _ rfl ⟨4,.chain⟩ (by simp) rfl
    obtain ⟨r1,R2,w1,m1,m2,m3,m4⟩:=hg.2.2 rfl
    refine ⟨PC2.out r1 R2 w1 wb m2 m4,(fun e=>by simp [done,l4] at e),(fun _ e=>by simp [done] at e),fun _=>⟨r1,R2,w1,m1,m2,m3,m4⟩⟩
   ·have e4:done l i 4=l 4:=by unfold done;rw [if_neg (fun e=>h4 e.symm)]
    have e9:done l i 9=l 9:=by unfold done;rw [if_neg (fun e=>h9 e.symm)]
    rw [e4,e9,hg.1 h4 h9]
    exact hW
 case front =>
  intro i o a' wz l ho hi' hli hcl hwt hE hW hd K hK
  have t0:a'.tmps[0]?.getD undef = .pointer (some ⟨PB,0,none⟩):=(evn a' 0).symm.trans (hE.at_ (by simp) (by omega))
  have z1:=hW.1.1
  have z2:=hW.1.2
  have HW:=Hid.mk' hW
  have HCL:=Hid.mk' hcl
  clear hE hW hcl
  match i,ho,hi',hli,hwt,HCL,hd,hK with
  | 0,ho,_,_,_,_,hd,hK =>
   obtain rfl:=Option.some.inj ho
   clear hd
   unfold Oper.wp
   go_simp
   exact hK _ _ ⟨fun _ _=>rfl,(fun e=>by cases e),(fun e=>by cases e)⟩ rfl
  | 1,ho,_,_,_,_,hd,hK =>
   obtain rfl:=Option.some.inj ho
   have e0:a'.eval (.tmp 143) = .pointer (some ⟨PB,0,none⟩):=hd ⟨0,.data⟩ (by simp) rfl
   rw [evn] at e0
   clear hd
   unfold Oper.wp
   go_simp
   exact hK _ _ ⟨fun _ _=>rfl,(fun e=>by cases e),(fun e=>by cases e)⟩ rfl
  | 2,ho,_,_,_,_,hd,hK =>
   obtain rfl:=Option.some.inj ho
   have e0:a'.eval (.tmp 144) = .pointer (some ⟨PB,0,none⟩):=hd ⟨1,.data⟩ (by simp) rfl
   rw [evn] at e0
   clear hd
   unfold Oper.wp
   go_simp
   exact hK _ _ ⟨fun _ _=>rfl,(fun e=>by cases e),(fun e=>by cases e)⟩ rfl
  | 3,ho,_,_,_,_,hd,hK =>
   obtain rfl:=Option.some.inj ho
   have e0:a'.eval (.tmp 145) = .pointer (some ⟨PB,0,none⟩):=hd ⟨2,.data⟩ (by simp) rfl
   rw [evn] at e0
   clear hd
   unfold Oper.wp
   go_simp
   exact hK _ _ ⟨fun _ _=>rfl,(fun e=>by cases e),(fun e=>by cases e)⟩ rfl
  | 4,ho,_,hli,_,_,hd,hK =>
   obtain rfl:=Option.some.inj ho
   have e0:a'.eval (.tmp 146) = .pointer (some ⟨T.TB,0,none⟩):=hd ⟨3,.data⟩ (by simp) rfl
   rw [evn] at e0
   have GZ:=Hid.mk' (HW.out.2.1 hli)
   have CC:=Hid.mk' (HP'.out wz GZ.out)
   clear hd hli z1 z2 HW
   unfold Oper.wp
   go_simp
   refine CC.out.mono ?_
   rintro e w1 ⟨he,r1,q1,q2⟩
   subst he
   have HM:Hid (MdP T r cs' s' w w1):=⟨r1,q1,(Fr.gr GZ.out).trans q2⟩
   clear q1 q2 CC
   go_simp
   exact hK _ _ ⟨(fun e=>absurd rfl e),fun _=>HM.out,(fun e=>by cases e)⟩ rfl
  | 5,ho,_,_,_,_,hd,hK =>
   obtain rfl:=Option.some.inj ho
   clear hd
   unfold Oper.wp
   go_simp
   exact hK _ _ ⟨fun _ _=>rfl,(fun e=>by cases e),(fun e=>by cases e)⟩ rfl
  | 6,ho,_,_,_,_,hd,hK =>
   obtain rfl:=Option.some.inj ho
   have e0:a'.eval (.tmp 148) = .pointer (some ⟨PB,0,none⟩):=hd ⟨5,.data⟩ (by simp) rfl
   rw [evn] at e0
   clear hd
   unfold Oper.wp
   go_simp
   exact hK _ _ ⟨fun _ _=>rfl,(fun e=>by cases e),(fun e=>by cases e)⟩ rfl
  | 7,ho,_,_,_,_,hd,hK =>
   obtain rfl:=Option.some.inj ho
   have e0:a'.eval (.tmp 149) = .pointer (some ⟨PB,0,none⟩):=hd ⟨6,.data⟩ (by simp) rfl
   rw [evn] at e0
   clear hd
   unfold Oper.wp
   go_simp
   exact hK _ _ ⟨fun _ _=>rfl,(fun e=>by cases e),(fun e=>by cases e)⟩ rfl
  | 8,ho,_,_,_,_,hd,hK =>
   obtain rfl:=Option.some.inj ho
   have e0:a'.eval (.tmp 150) = .pointer (some ⟨PB,1,none⟩):=hd ⟨7,.data⟩ (by simp) rfl
   rw [evn] at e0
   clear hd
   unfold Oper.wp
   go_simp
   exact hK _ _ ⟨fun _ _=>rfl,(fun e=>by cases e),(fun e=>by cases e)⟩ rfl
  | 9,ho,_,hli,hwt,_,hd,hK =>
   obtain rfl:=Option.some.inj ho
   have e0:a'.eval (.tmp 151) = .pointer (some ⟨C.TB,0,none⟩):=hd ⟨8,.data⟩ (by simp) rfl
   rw [evn] at e0
   have l4:l 4=true:=hwt _ rfl ⟨4,.chain⟩ (by simp) rfl
   obtain ⟨r1,q1,q2⟩:=HW.out.2.2.1 l4 hli
   have CC:=Hid.mk' (HR'.out wz (MID.out r1 wz q2))
   have Q:=Hid.mk' (And.intro q1 q2)
   clear hd hli hwt l4 z1 z2 HW q1 q2
   unfold Oper.wp
   go_simp
   refine CC.out.mono ?_
   rintro e w1 ⟨he,R2,q1,q2⟩
   subst he
   have HM:Hid (AfP A C T r R cs' s' w w1):=⟨r1,R2,wz,Q.out.1,Q.out.2,q1,q2⟩
   clear q1 q2 CC
   go_simp
   exact hK _ _ ⟨(fun _ e=>absurd rfl e),(fun e=>by cases e),fun _=>HM.out⟩ rfl
  | 10,ho,_,_,_,_,hd,hK =>
   obtain rfl:=Option.some.inj ho
   have e0:a'.eval (.tmp 147) = .int .i64 code:=hd ⟨4,.data⟩ (by simp) rfl
   rw [evn] at e0
   have e1:a'.eval (.tmp 152) = .int .i64 code:=hd ⟨9,.data⟩ (by simp) rfl
   rw [evn] at e1
   clear hd
   unfold Oper.wp
   go_simp
   exact hK _ _ ⟨fun _ _=>rfl,(fun e=>by cases e),(fun e=>by cases e)⟩ rfl
  | k+11,_,hi',_,_,_,_,_=>exact absurd hi' (by omega)
 case last =>
  intro o a' wy ho hE hW hd K hK
  obtain rfl:=Option.some.inj ho
  have e10:a'.eval (.tmp 153) = .bool true:=hd 10 (by omega)
  have hdf:=hE.df
  obtain ⟨l,hW,hl⟩:=hW
  obtain ⟨r1,R2,FN⟩:=BO.out wy (hW.2.2.2 (hl 9 (by omega)))
  have FIN:=Hid.mk' FN
  obtain ⟨z,hz,hts⟩:=hE.ts
  have HTS:=Hid.mk' (And.intro hz (And.intro hts hdf))
  clear hz hts hdf hd hE ho hW hl FN
  rw [evn] at e10
  unfold Oper.wp
  go_simp
  refine hK _ _ ?_
  clear hK
  obtain ⟨hz,hts,hdf⟩:=HTS.out
  obtain ⟨y0,y1,y2,y3,y4,y5,y6,y7,y8,y9,y10,rfl⟩:∃ y0 y1 y2 y3 y4 y5 y6 y7 y8 y9 y10,z=[y0,y1,y2,y3,y4,y5,y6,y7,y8,y9,y10]:=by
   match z,hz with
   | [y0,y1,y2,y3,y4,y5,y6,y7,y8,y9,y10],_=>exact ⟨y0,y1,y2,y3,y4,y5,y6,y7,y8,y9,y10,rfl⟩
  obtain ⟨tm,df⟩:=a'
  simp only at hts hdf
  subst hts hdf
  clear hz HTS
  simp only [List.take_succ_cons,List.take_zero,List.drop_succ_cons,List.drop_zero,List.cons_append,List.nil_append]
  go_wp2_with fail
  go_ret
  exact ⟨rfl,r1,R2,cs',s',HC.out,FIN.out⟩
def LookP (A:Nat→Prop) (T:Tc) (C:Rc) (r R:Nat→Rl) (LB PB BB:Nat) (B D:Nat→Prop) (L M:Nat) (w:World) (cs:List (Pc (List Atr))) (s:Ts) (e:Ending) (w':World):Prop :=
 e = .returned (.bool true) ∧ ∃ B',(∀ k,k<w.heap.size→B' k→B k)∧St A T C r R LB PB BB B' D (L+4) M w' cs s∧Kx (Oz r R B D) w w'
theorem LookP.pre {A:Nat→Prop} {T:Tc} {C:Rc} {r R:Nat→Rl} {LB PB BB:Nat} {B D:Nat→Prop} {L M:Nat} {w W:World} {cs:List (Pc (List Atr))} {s:Ts} {e:Ending} {w':World} (g:Gr w W) (h:e = .returned (.bool true) ∧ ∃ B',(∀ k,k<W.heap.size→B' k→B k)∧St A T C r R LB PB BB B' D (L+4) M w' cs s∧Kx (Oz r R B D) W w'):LookP A T C r R LB PB BB B D L M w cs s e w':=by
 obtain ⟨h1,B',h0,h2,h3⟩:=h
 exact ⟨h1,B',fun k hk=>h0 k (Nat.lt_of_lt_of_le hk g.size),h2,(Kx.gr g).trans h3 (fun _ _ e=>e)⟩
set_option maxRecDepth 100000 in
set_option maxHeartbeats 4000000 in
theorem St.step8 {A:Nat→Prop} {T:Tc} {C:Rc} {r R:Nat→Rl} {LB PB BB:Nat} {B D:Nat→Prop} {L M:Nat} {w:World} {cs:List (Pc (List Atr))} {s:Ts} (h:St A T C r R LB PB BB B D L M w cs s) (wh a b:Int) (fad:Option Addr) (fn fc:Nat) (ead:Option Addr) (en ec:Nat) (hm:Sm T s) (hL:L≤1099511627776) :
  Calls Tryz.prog 31 #[.pointer (some ⟨PB,0,none⟩),stepV wh 8 a b fad fn fc ead en ec] w fun e w'=>LookP A T C r R LB PB BB B D L M w cs s e w':=by
 have LK:Hid (∀ W,Gr w W→Calls Tryz.prog 68 #[.pointer (some ⟨PB,0,none⟩)] W fun e w'=>LookP A T C r R LB PB BB B D L M w cs s e w'):=fun W g=>((h.gr g).links hm hL).mono (fun e w' he=>LookP.pre g he)
 clear h hm hL
 unfold stepV
 go_enter Tryz.func31,Tryz.ntmps31
 go_wp2_with fail
 refine (LK.out _ ((Gr.refl w).alloc _)).mono ?_
 intro e w1 hp
 have HQ:=Hid.mk' hp.2
 have he:=hp.1
 subst he
 clear hp LK
 go_wp2_with fail
 go_ret
 exact ⟨rfl,HQ.out⟩
set_option maxRecDepth 100000 in
set_option maxHeartbeats 4000000 in
theorem St.step9 {A:Nat→Prop} {T:Tc} {C:Rc} {r R:Nat→Rl} {LB PB BB:Nat} {B D:Nat→Prop} {L M:Nat} {w:World} {cs:List (Pc (List Atr))} {s:Ts} (h:St A T C r R LB PB BB B D L M w cs s) (wh a b:Int) (fad:Option Addr) (fn fc:Nat) (ead:Option Addr) (en ec:Nat) (hm:Sm T s) (hs:∀ b,b<T.nb→Srt (s.held b)) (hadj:∀ a b,T.adj a b=true→a<T.nb∧b<T.nb) (hlk:(lks T).length≤14) (hL:L≤1099511627776) (hi:I64 b) :
  Calls Tryz.prog 31 #[.pointer (some ⟨PB,0,none⟩),stepV wh 9 a b fad fn fc ead en ec] w fun e w'=>LookP A T C r R LB PB BB B D L M w cs s e w':=by
 have LK:Hid (∀ W,Gr w W→Calls Tryz.prog 69 #[.pointer (some ⟨PB,0,none⟩),.int .i64 a,.int .i64 b] W fun e w'=>LookP A T C r R LB PB BB B D L M w cs s e w'):=fun W g=>((h.gr g).held hm hs hadj hlk hL a b hi).mono (fun e w' he=>LookP.pre g he)
 clear h hm hL hs hadj hlk hi
 unfold stepV
 go_enter Tryz.func31,Tryz.ntmps31
 go_wp2_with fail
 refine (LK.out _ ((Gr.refl w).alloc _)).mono ?_
 intro e w1 hp
 have HQ:=Hid.mk' hp.2
 have he:=hp.1
 subst he
 clear hp LK
 go_wp2_with fail
 go_ret
 exact ⟨rfl,HQ.out⟩
set_option maxRecDepth 100000 in
set_option maxHeartbeats 4000000 in
theorem step_none {PB:Nat} {w:World} (wh kind a b:Int) (fad:Option Addr) (fn fc:Nat) (ead:Option Addr) (en ec:Nat) (h1:kind≠1) (h2:kind≠2) (h3:kind≠3) (h4:kind≠4) (h5:kind≠5) (h6:kind≠6) (h7:kind≠7) (h8:kind≠8) (h9:kind≠9) :
  Calls Tryz.prog 31 #[.pointer (some ⟨PB,0,none⟩),stepV wh kind a b fad fn fc ead en ec] w fun e w'=>e = .returned (.bool true)∧Gr w w':=by
 unfold stepV
 go_enter Tryz.func31,Tryz.ntmps31
 go_wp2_with fail
 go_ret
 exact ⟨rfl,(Gr.refl w).alloc _⟩
def AllI (A:Nat→Prop) (T:Tc) (C:Rc) (r R:Nat→Rl) (LB PB BB:Nat) (B D:Nat→Prop) (L M:Nat) (w:World) (cs:List (Pc (List Atr))) (s:Ts) (wr:World):Prop :=
 ∃ B',(∀ k,k<w.heap.size→B' k→B k)∧St A T C r R LB PB BB B' D L M wr cs s∧Kx (Oz r R B D) w wr
theorem AllI.look {A:Nat→Prop} {T:Tc} {C:Rc} {r R:Nat→Rl} {LB PB BB:Nat} {B D:Nat→Prop} {L M:Nat} {w wr w':World} {cs:List (Pc (List Atr))} {s:Ts} {B':Nat→Prop} (h0:∀ k,k<w.heap.size→B' k→B k) (h2:Kx (Oz r R B D) w wr) (h:∃ B2,(∀ k,k<wr.heap.size→B2 k→B' k)∧St A T C r R LB PB BB B2 D (L+4) M w' cs s∧Kx (Oz r R B' D) wr w'):AllI A T C r R LB PB BB B D (L+4) M w cs s w':=by
 obtain ⟨B2,k0,k1,k2⟩:=h
 refine ⟨B2,fun k hk hb=>h0 k hk (k0 k (Nat.lt_of_lt_of_le hk h2.size) hb),k1,h2.trans k2 (fun k hk e=>?_)⟩
 rcases e with e | e | e | e
 ·exact Or.inl e
 ·exact Or.inr (Or.inl e)
 ·exact Or.inr (Or.inr (Or.inl (h0 k hk e)))
 ·exact Or.inr (Or.inr (Or.inr e))
set_option maxRecDepth 100000 in
set_option maxHeartbeats 4000000 in
theorem St.all {A:Nat→Prop} {T:Tc} {C:Rc} {r R:Nat→Rl} {LB PB BB:Nat} {B D:Nat→Prop} {L M:Nat} {w:World} {cs:List (Pc (List Atr))} {s:Ts} (h:St A T C r R LB PB BB B D L M w cs s) (hm:Sm T s) (hs:∀ b,b<T.nb→Srt (s.held b)) (hadj:∀ a b,T.adj a b=true→a<T.nb∧b<T.nb) (hlk:(lks T).length≤14) (hL:L≤1099511627000) :
  Calls Tryz.prog 34 #[.pointer (some ⟨PB,0,none⟩),.bool false] w fun e w'=>e = .returned (.bool true)∧AllI A T C r R LB PB BB B D (L+404) M w cs s w':=by
 have LK:Hid (Calls Tryz.prog 68 #[.pointer (some ⟨PB,0,none⟩)] w fun e w'=>e = .returned (.bool true)∧AllI A T C r R LB PB BB B D (L+4) M w cs s w'):=(h.links hm (by omega)).mono (fun e w' he=>⟨he.1,AllI.look (fun _ _ e=>e) (Kx.gr (Gr.refl w)) he.2⟩)
 have HL:Hid (∀ (wr:World) (q:Nat) (a b:Int),q≤400→I64 b→AllI A T C r R LB PB BB B D (L+4+q) M w cs s wr→Calls Tryz.prog 69 #[.pointer (some ⟨PB,0,none⟩),.int .i64 a,.int .i64 b] wr fun e w'=>e = .returned (.bool true)∧AllI A T C r R LB PB BB B D (L+4+q+4) M w cs s w'):=fun wr q a b hq hb ⟨B',i0,i1,i2⟩=>(i1.held hm hs hadj hlk (by omega) a b hb).mono (fun e w' he=>⟨he.1,AllI.look i0 i2 he.2⟩)
 clear h hm hs hadj hlk
 go_enter Tryz.func34,Tryz.ntmps34
 go_wp2_with fail
 refine LK.out.mono ?_
 rintro e w1 ⟨rfl,hi⟩
 have HI:=Hid.mk' hi
 clear hi LK
 go_wp2_with fail
 go_loopw [5,6] (fun ok b wr=>∃ q:Nat,q≤10∧ok = .bool true∧b = .int .i64 ((q:Int) - 1)∧Hid (AllI A T C r R LB PB BB B D (L+4+40*q) M w cs s wr)) (fun _ b _=>(10 - (intOf b+1)).toNat)
 case atStart=>exact ⟨0,Nat.zero_le _,rfl,rfl,HI⟩
 case round =>
  obtain ⟨q,hq,rfl,rfl,HQ⟩:=hrel
  by_cases hlt:q<10
  ·have hb9:(q:Int) - 1<9:=by omega
   go_wp2_with fail
   go_loopw [5,7] (fun ok f w2=>∃ p:Nat,p≤10∧ok = .bool true∧f = .int .i64 ((p:Int) - 1)∧Hid (AllI A T C r R LB PB BB B D (L+4+(40*q+4*p)) M w cs s w2)) (fun _ f _=>(10 - (intOf f+1)).toNat)
   case atStart=>exact ⟨0,Nat.zero_le _,rfl,rfl,HQ⟩
   case round =>
    clear HQ HI
    obtain ⟨p,hp,rfl,rfl,HP⟩:=hrel
    by_cases hpl:p<10
    ·have hf9:(p:Int) - 1<9:=by omega
     have CC:=Hid.mk' (HL.out wr (40*q+4*p) ((q:Int) - 1) ((p:Int) - 1) (by omega) ⟨by omega,by omega⟩ HP.out)
     go_wp2_with fail
     refine CC.out.mono ?_
     rintro e w3 ⟨rfl,hi⟩
     have H3:=Hid.mk' hi
     clear hi CC HP
     go_wp2_with fail
     go_roundw
     case rel=>exact ⟨p+1,by omega,rfl,by go_num,H3⟩
     case measure=>simp [intOf];omega
    ·have hf9:¬ (p:Int) - 1<9:=by omega
     have hpe:p=10:=by omega
     subst hpe
     have H4:Hid (AllI A T C r R LB PB BB B D (L+4+40*(q+1)) M w cs s wr):=HP.out
     clear HP
     go_wp2_with fail
     go_roundw
     case rel=>exact ⟨q+1,by omega,rfl,by go_num,H4⟩
     case measure=>simp [intOf];omega
  ·have hb9:¬ (q:Int) - 1<9:=by omega
   have hqe:q=10:=by omega
   subst hqe
   obtain ⟨B',i0,i1,i2⟩:=HQ.out
   have p1:wr.cell? ⟨PB,1,none⟩=some (.pointer (some ⟨C.TB,0,none⟩)):=by rw [cell_of_row _ _ _ _ _ _ i1.pr.pb];rfl
   obtain ⟨ca,cn,cc,p2⟩:∃ ca cn cc,wr.cell? ⟨C.TB,2,none⟩=some (.slice ca cn cc):=by
    obtain ⟨ads,Xs,lv,Ls,cv,rs,rt,hnb,rv,hr⟩:=i1.pr.q
    obtain ⟨ca,cc,rfl⟩:=rt.k.cl.shape
    exact ⟨_,_,_,rt.c2⟩
   clear i0 i1 i2 HI
   go_wp2_with fail
   go_loopw [5,8] (fun ok c w2=>ok = .bool true∧c = .int .i64 0∧w2=wr) (fun _ _ _=>0)
   case atStart=>exact ⟨rfl,rfl,rfl⟩
   case round =>
    obtain ⟨rfl,rfl,hwe⟩:=hrel
    have hwe':=hwe.symm
    clear hwe
    subst hwe'
    by_cases hcn:(0:Int)<(cn:Int)
    ·go_wp2_with fail
     go_ret
     exact ⟨rfl,HQ.out⟩
    ·go_wp2_with fail
     go_ret
     exact ⟨rfl,HQ.out⟩
structure Stp where
 wh:Int
 kind:Int
 a:Int
 b:Int
 f:List Wnt
 fad:Option Addr
 fc:Nat
 ead:Option Addr
 en:Nat
 ec:Nat
def Stp.v (x:Stp):Value:=stepV x.wh x.kind x.a x.b x.fad x.f.length x.fc x.ead x.en x.ec
structure SpOk (A:Nat→Prop) (w:World) (Ks:List Ky) (x:Stp):Prop where
 f:FiC A w x.fad x.f
 a:I64 x.a
 b:I64 x.b
 k:(x.a,x.b)∈Ks
theorem SpOk.keep {A:Nat→Prop} {w w':World} {Ks:List Ky} {x:Stp} (h:SpOk A w Ks x) (hs:w.heap.size≤w'.heap.size) (hk:∀ k,k<w.heap.size→A k→w'.heap[k]? = w.heap[k]?):SpOk A w' Ks x:=⟨h.f.keep hs hk,h.a,h.b,h.k⟩
section
variable {A:Nat→Prop} {T:Tc} {C:Rc} {r R:Nat→Rl} {LB PB BB:Nat} {B D:Nat→Prop} {L M:Nat} {w:World} {cs:List (Pc (List Atr))} {s:Ts}
theorem St.up (h:St A T C r R LB PB BB B D L M w cs s) {L' M':Nat} (hL:L≤L') (hM:M≤M'):St A T C r R LB PB BB B D L' M' w cs s:=⟨h.pr,h.bo.up hL,h.le.up hM,h.sB,h.sD⟩
end
def AnyP (A:Nat→Prop) (T:Tc) (C:Rc) (r R:Nat→Rl) (LB PB BB:Nat) (B D:Nat→Prop) (L M:Nat) (nxt:Nat→Nat→Int) (rank:Nat→Nat→Nat) (Ks:List Ky) (Mw:Nat) (w:World) (e:Ending) (w':World):Prop :=
 e = .returned (.bool true) ∧ ∃ r' R' B' D' cs' s',St A T C r' R' LB PB BB B' D' (L+4) (M+1) w' cs' s'∧Wl T nxt rank Ks cs' s' (Mw+8*(Ks.length+1))∧(∀ k,k<w.heap.size→B' k→B k)∧(∀ k,k<w.heap.size→D' k→D k)∧Kq r R r' R' B D w w'
section
variable {A:Nat→Prop} {T:Tc} {C:Rc} {r R:Nat→Rl} {LB PB BB:Nat} {B D:Nat→Prop} {L M:Nat} {w:World} {cs:List (Pc (List Atr))} {s:Ts} {nxt:Nat→Nat→Int} {rank:Nat→Nat→Nat} {Ks:List Ky} {Mw:Nat}
theorem AnyP.of {Ch:List (Pc (List Atr))→Ts→Prop} (hC:∀ cs' s',Ch cs' s'→Wl T nxt rank Ks cs' s' (Mw+8*(Ks.length+1))) {e:Ending} {w':World} (h:StepP A T C r R LB PB BB B D L M Ch w e w'):AnyP A T C r R LB PB BB B D L M nxt rank Ks Mw w e w':=by
 obtain ⟨he,r',R',cs',s',h1,h2,h3⟩:=h
 exact ⟨he,r',R',B,D,cs',s',h2.up (by omega) (by omega),hC _ _ h1,fun _ _ e=>e,fun _ _ e=>e,h3⟩
theorem AnyP.look (W:Wl T nxt rank Ks cs s Mw) {e:Ending} {w':World} (h:LookP A T C r R LB PB BB B D L M w cs s e w'):AnyP A T C r R LB PB BB B D L M nxt rank Ks Mw w e w':=by
 obtain ⟨he,B',h1,h2,h3⟩:=h
 exact ⟨he,r,R,B',D,cs,s,h2.up (by omega) (by omega),W.up (by omega),h1,fun _ _ e=>e,h3,fun _ _=>⟨rfl,rfl⟩⟩
theorem St.stepAny (h:St A T C r R LB PB BB B D L M w cs s) (W:Wl T nxt rank Ks cs s Mw) (S:Sh T nxt rank) (hlk:(lks T).length≤14) (hL:L≤1099511627000) (hM:M≤1099511627000) (hK:Ks.length≤1048576) (hMw:Mw<549755813888) (x:Stp) (hx:SpOk A w Ks x) (h4:x.kind≠4) (h7:x.kind≠7) :
  Calls Tryz.prog 31 #[.pointer (some ⟨PB,0,none⟩),x.v] w fun e w'=>AnyP A T C r R LB PB BB B D L M nxt rank Ks Mw w e w':=by
 have hadj:=h.pr.p.b.adj
 have hn8:=h.pr.p.b.nb8
 have hm:=W.sm S hK hMw
 obtain ⟨wh,kind,a,b,f,fad,fc,ead,en,ec⟩:=x
 obtain ⟨hf,ha,hb,hk⟩:=hx
 simp only at hf ha hb hk h4 h7
 unfold Stp.v
 simp only
 by_cases k1:kind=1
 ·subst k1
  refine (h.step1 wh a b fad f.length fc ead en ec (attach_both2 h.pr.p h.pr.q a b ha W.le)).mono (fun e w' he=>AnyP.of (fun cs' s' hc=>?_) he)
  obtain ⟨rfl,rfl | ⟨b',j1,j2,j3,rfl⟩⟩:=hc
  ·exact W.up (by omega)
  ·exact (W.attach j1 j2 j3).up (by omega)
 by_cases k2:kind=2
 ·subst k2
  refine (h.step2 (by omega) wh a b f fad fc hf ead en ec (sub_both hm W.srt W.un W.le W.at' a b ha hb f fad fc hf.wf (Nat.le_trans hf.len (by decide)) (W.fr S) (W.insLen hK a b f hk))).mono ?_
  rintro e w' ⟨he,r',R',D',cs',s',⟨rfl,hc⟩,j1,j2,j3⟩
  refine ⟨he,r',R',B,D',cs',s',j2.up (by omega) (Nat.le_refl _),?_,fun _ _ e=>e,j1,j3⟩
  rcases hc with rfl | ⟨c,hc,rfl,i1,i2,rfl⟩
  ·exact W.up (by omega)
  ·exact W.sub S hn8 hc i1 hf.wf i2 hk
 by_cases k3:kind=3
 ·subst k3
  refine (h.step3 wh a b fad f.length fc ead en ec (uns_both h.pr.p hm W.srt W.un W.le W.at' a b ha hb)).mono (fun e w' he=>AnyP.of (fun cs' s' hc=>?_) he)
  obtain ⟨rfl,rfl | ⟨c,hc,rfl,i1,rfl⟩⟩:=hc
  ·exact W.up (by omega)
  ·exact W.uns S hn8 hc i1
 by_cases k5:kind=5
 ·subst k5
  obtain ⟨home,n,K2,g,i1,i2,i3⟩:=W.gd
  refine (h.step5 wh a b fad f.length fc ead en ec (step_both h.pr.p W.ev S g hK hMw W.srt a b ha hb (W.lost hMw))).mono (fun e w' he=>AnyP.of (fun cs' s' hc=>?_) he)
  obtain ⟨rfl,j1,j2,n',j3,j4⟩:=hc
  exact Wl.up ⟨⟨home,n',K2,j4,i1,j2 K2 i2,i3⟩,j1,W.at',W.un,W.le⟩ (Nat.le_add_right _ _)
 by_cases k6:kind=6
 ·subst k6
  obtain ⟨home,n,K2,g,i1,i2,i3⟩:=W.gd
  refine (h.step6 wh a b fad f.length fc ead en ec (drain_both h.pr.p W.ev S g hK hMw)).mono (fun e w' he=>AnyP.of (fun cs' s' hc=>?_) he)
  obtain ⟨rfl,j1,j2,n',j3,j4⟩:=hc
  exact Wl.up ⟨⟨home,n',K2,j4,i1,j2 K2 i2,i3⟩,j1,W.at',W.un,W.le⟩ (Nat.le_add_right _ _)
 by_cases k8:kind=8
 ·subst k8
  exact (h.step8 wh a b fad f.length fc ead en ec hm (by omega)).mono (fun e w' he=>AnyP.look W he)
 by_cases k9:kind=9
 ·subst k9
  exact (h.step9 wh a b fad f.length fc ead en ec hm W.srt hadj hlk (by omega) hb).mono (fun e w' he=>AnyP.look W he)
 refine (step_none wh kind a b fad f.length fc ead en ec k1 k2 k3 h4 k5 k6 h7 k8 k9).mono ?_
 rintro e w' ⟨he,g⟩
 exact ⟨he,r,R,B,D,cs,s,(h.gr g).up (by omega) (by omega),W.up (by omega),fun _ _ e=>e,fun _ _ e=>e,Kx.gr g,fun _ _=>⟨rfl,rfl⟩⟩
end
end Go.Proofs.YtecnfgikbmcgoaaGreat
