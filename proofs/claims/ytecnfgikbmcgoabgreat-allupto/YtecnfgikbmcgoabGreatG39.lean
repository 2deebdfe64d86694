import Derived.Test.YtecnfgikbmcgoabGreatG36
import Derived.Test.YtecnfgikbmcgoabGreatG38
set_option maxHeartbeats 8000000
set_option maxRecDepth 100000
namespace Go.Proofs.YtecnfgikbmcgoabGreat
open Go.Proofs.Tryz
open Go.RowKit
variable {A B B' D E O1 O2:Nat->Prop}{BB L' M Mw' OB PB fn:Nat}{C:Rc}{Ch:List (Pc (List Atr))->Ts->Prop}{Ks es:List Ky}{T:Tc}{code:Int}{cs:List (Pc (List Atr))}{nxt:Nat->Nat->Int}{rank:Nat->Nat->Nat}{w w':World}
def RpS(PB TB LB OB:Nat)(a:Int)(fad:Option Addr)(fn fc:Nat)(f:List Atr)(code:Int)(j:Nat)(x:Value)(W:World):Prop:=
 match j with
 |0=>x=.pointer (some ⟨PB,0,none⟩)
 |1=>x=.pointer (some ⟨PB,0,none⟩)
 |2=>x=.pointer (some ⟨PB,0,none⟩)
 |3=>x=.pointer (some ⟨TB,0,none⟩)
 |4=>x=.pointer (some ⟨OB,2,none⟩)
 |5=>x=.int .i64 a
 |6=>x=.pointer (some ⟨PB,0,none⟩)
 |7=>x=.pointer (some ⟨PB,0,none⟩)
 |8=>x=.pointer (some ⟨PB,2,none⟩)
 |9=>x=.pointer (some ⟨LB,0,none⟩)
 |10=>x=.pointer (some ⟨OB,5,none⟩)
 |11=>x=.slice fad fn fc
 |12=>∃ad cap,x=.slice ad f.length cap/\Ecp OB W ad f
 |13=>x=.int .i64 code
 |_=>True
theorem RpS.st{TB LB:Nat}{a:Int}{fad:Option Addr}{fc:Nat}{f:List Atr}(j:Nat)(x:Value)(wa wb:World)(g:Kx (fun k=>k<OB) wa wb)(h:RpS PB TB LB OB a fad fn fc f code j x wa):RpS PB TB LB OB a fad fn fc f code j x wb:=by
 match j,h with
 |0,h=>exact h
 |1,h=>exact h
 |2,h=>exact h
 |3,h=>exact h
 |4,h=>exact h
 |5,h=>exact h
 |6,h=>exact h
 |7,h=>exact h
 |8,h=>exact h
 |9,h=>exact h
 |10,h=>exact h
 |11,h=>exact h
 |12,⟨ad,cap,h1,h2⟩=>exact⟨ad,cap,h1,h2.keep g⟩
 |13,h=>exact h
 |_+14,_=>trivial
def RpT(PB TB OB:Nat)(a:Int)(fad:Option Addr)(fn fc:Nat)(code:Int)(j:Nat)(x:Value)(_:World):Prop:=
 match j with
 |0=>x=.int .i64 code
 |1=>x=.int .i64 code
 |2=>x=.pointer (some ⟨PB,0,none⟩)
 |3=>x=.pointer (some ⟨PB,0,none⟩)
 |4=>x=.pointer (some ⟨PB,1,none⟩)
 |5=>x=.pointer (some ⟨TB,0,none⟩)
 |6=>x=.pointer (some ⟨OB,2,none⟩)
 |7=>x=.int .i64 a
 |8=>x=.pointer (some ⟨OB,5,none⟩)
 |9=>x=.slice fad fn fc
 |10=>x=.int .i64 code
 |11=>x=.bool true
 |_=>True
theorem RpT.st{TB:Nat}{a:Int}{fad:Option Addr}{fc:Nat}(j:Nat)(x:Value)(wa wb:World)(h:RpT PB TB OB a fad fn fc code j x wa):RpT PB TB OB a fad fn fc code j x wb:=by
 match j,h with
 |0,h=>exact h
 |1,h=>exact h
 |2,h=>exact h
 |3,h=>exact h
 |4,h=>exact h
 |5,h=>exact h
 |6,h=>exact h
 |7,h=>exact h
 |8,h=>exact h
 |9,h=>exact h
 |10,h=>exact h
 |11,h=>exact h
 |_+12,_=>trivial
theorem St.step4{r R:Nat->Rl}{LB:Nat}{L:Nat}{s:Ts}(h:St A T C r R LB PB BB B D L M w cs s)(hM:M<=1099511627776)(wh a b:Int)(f:List Atr)(fad:Option Addr)(fc:Nat)(hf:EvC A w fad f)(ead:Option Addr)(en ec:Nat)(hb:Za A T C r R cs s a f fad fc Ch):Calls prog 9 #[.pointer (some ⟨PB,0,none⟩),lK wh 4 a b ead en ec fad f.length fc] w fun e w'=>Vf A T C r R LB PB BB B D L M Ch w e w':=by
 obtain⟨code,cs',s',hcs',HP,HR⟩:=hb;have HR':=hZ HR;have HP':=hZ HP;have tr:=h.pr.p.b.top;have lD:=h.le.lt;have aD:∀k,A k->¬D k:=fun k ha hd=>(h.sD k hd).2.2.1 ha;have CPY:Hid (∀W,Gr w W->Calls prog 24 #[.pointer (some ⟨LB,0,none⟩),.slice fad f.length fc] W fun e w'=>∃ad' cap',e=.returned (.slice ad' f.length cap')/\Ecp w.heap.size w' ad' f/\CpS A T C r R LB PB BB B D L M w cs s w'/\Kx D W w'):=fun W g=>((h.gr g).copyE hM f fad fc (hf.gr g)).mono (fun e w' ⟨ad',cap',h1,h2,h3⟩=>⟨ad',cap',h1,h2.low g.size,h3.pre g,h3.choose_spec.2.1⟩);have KD:Hid (∀W W1,w.heap.size<W.heap.size->Kx D W W1->Kx (fun k=>k<w.heap.size) W W1):=fun W W1 _ k=>k.wide (fun q _ e=>lD q e);have KF:Hid (∀r1 W W1,Fr r r1 W W1->Kx (fun k=>k<w.heap.size) W W1):=fun r1 W W1 k=>k.kx.wide (fun q _ e=>dG.1 (fun c=>e (tr q (by omega))));have PBF:Hid (∀r1 W W1,Fr r r1 W W1->∀o,W.heap[PB]?=some o->W1.heap[PB]?=some o):=fun r1 W W1 k o ho=>(k.keep PB (fZ ho) (Or.inl h.pr.np.1)).trans ho;have PB0:=hZ h.pr.pb;have FCM:Hid (∀W,MdS A T C r R LB PB BB B D L M w cs s cs' s' W->EvC A W fad f/\Rw A C T R W cs s/\W.heap[PB]?=some (.cells #[.pointer (some ⟨T.TB,0,none⟩),.pointer (some ⟨C.TB,0,none⟩),.pointer (some ⟨LB,0,none⟩),.pointer (some ⟨BB,0,none⟩)] 55 (0,0))):=fun W ⟨r1,w1,h1,t1,f1⟩=>by obtain⟨D',i1,i2,i3⟩:=h1;have c1:=hf.keep i2.size (fun k hk ha=>i2.keep k hk (aD k ha));exact⟨c1.keep f1.size (fun k hk ha=>f1.keep k hk (Or.inl (h.pr.ar k ha))),i3.pr.mid f1,(f1.keep PB (fZ i3.pr.pb) (Or.inl i3.pr.np.1)).trans i3.pr.pb⟩
 have CTF:Hid (∀W,CpS A T C r R LB PB BB B D L M w cs s W->Tf T r W cs s):=fun W ⟨_,_,_,i3⟩=>i3.pr.p;have CPB:Hid (∀W,CpS A T C r R LB PB BB B D L M w cs s W->W.heap[PB]?=some (.cells #[.pointer (some ⟨T.TB,0,none⟩),.pointer (some ⟨C.TB,0,none⟩),.pointer (some ⟨LB,0,none⟩),.pointer (some ⟨BB,0,none⟩)] 55 (0,0))):=fun W h=>h.pb.1;have TPR:Hid (R w.heap.size=.no):=h.pr.q.top.1 _ lZ;have NPR:Hid (R PB=.no):=h.pr.np.2;have HC:=hZ hcs';clear h hM hf HP HR hcs' tr lD aD;unfold lK;go_enter func9,ntmps9;go_wp2_with fail;generalize hOb:(Obj.cells #[.int .i64 wh,.int .i64 4,.int .i64 a,.int .i64 b,.slice ead en ec,.slice fad f.length fc] 43)=ob;have HOB:Hid (ob=.cells #[.int .i64 wh,.int .i64 4,.int .i64 a,.int .i64 b,.slice ead en ec,.slice fad f.length fc] 43 (0,0)):=hOb.symm;clear hOb;have G0:=hZ ((Gr.refl w).alloc ob);have B0:Hid ((w.alloc ob).heap[w.heap.size]?=some ob):=fY _ _;generalize w.alloc ob=W0 at *;generalize hPo:(Obj.cells #[.pointer (some ⟨T.TB,0,none⟩),.pointer (some ⟨C.TB,0,none⟩),.pointer (some ⟨LB,0,none⟩),.pointer (some ⟨BB,0,none⟩)] 55 (0,0))=po at *;have HPO:=hZ hPo.symm;clear hPo;have WW:Hid (∀W:World,(W.heap[w.heap.size]?=some ob/\W.heap[PB]?=some po)->W.cell? ⟨PB,0,none⟩=some (.pointer (some ⟨T.TB,0,none⟩))/\W.cell? ⟨PB,1,none⟩=some (.pointer (some ⟨C.TB,0,none⟩))/\W.cell? ⟨PB,2,none⟩=some (.pointer (some ⟨LB,0,none⟩))/\W.cell? ⟨w.heap.size,2,none⟩=some (.int .i64 a)/\W.cell? ⟨w.heap.size,3,none⟩=some (.int .i64 b)/\W.cell? ⟨w.heap.size,5,none⟩=some (.slice fad f.length fc)):=fun W h=>by
  obtain⟨h1,h2⟩:=h;rw[HOB.out] at h1;rw[HPO.out] at h2;refine⟨?_,?_,?_,?_,?_,?_⟩
  ·rw[cZ h2];rfl
  ·rw[cZ h2];rfl
  ·rw[cZ h2];rfl
  ·rw[cZ h1];rfl
  ·rw[cZ h1];rfl
  ·rw[cZ h1];rfl
 refine yQ rfl 14 (by rfl) (fun i=>92+i) (fun i _ j _ h=>by omega) (RpS PB T.TB LB w.heap.size a fad f.length fc f code) (Ef0 _ 92 14) (fun l W=>(W.heap[w.heap.size]?=some ob/\W.heap[PB]?=some po)/\(l 12=false->Gr w W)/\(l 12=true->l 13=false->CpS A T C r R LB PB BB B D L M w cs s W)/\(l 13=true->MdS A T C r R LB PB BB B D L M w cs s cs' s' W)) (fun i wa wb=>Kx (fun k=>k<w.heap.size) wa wb/\(i≠12->i≠13->wb=wa)/\(i=12->CpS A T C r R LB PB BB B D L M w cs s wb)/\(i=13->MdS A T C r R LB PB BB B D L M w cs s cs' s' wb/\wb.heap[PB]?=some po)) (fun a i x hi h=>Ef0.put (by simp) a i x hi h) (fun a h i hi=>by have:=h.sz (by simp);simp at this;omega) ?hw (fun i j x wa wb _ h g=>RpS.st j x wa wb g.1 h) ?front ?last (Ef0.start _ 92 14 (by simp)) ⟨⟨B0.out,gK G0.out PB0.out⟩,fun _=>G0.drew,(fun e=>by cases e),(fun e=>by cases e)⟩;case hw=>
  intro i l wa wb hi hli hcl hwt hW hg;have hob:wb.heap[w.heap.size]?=some ob:=(hg.1.keep _ (fZ hW.1.1) (by omega)).trans hW.1.1;by_cases h14:i=12
  ·subst h14;have l15:l 13=false:=by
    cases e15:l 13 with
    |false=>rfl
    |true=>have:=hcl 13 _ rfl e15 ⟨12,.data⟩ (by simp) rfl;simp only at this;rw[this] at hli;cases hli
   have hm:=hg.2.2.1 rfl;refine⟨⟨hob,CPB wb hm⟩,(fun e=>by simp[done] at e),fun _ _=>hm,fun e=>?_⟩;simp[done,l15] at e
  ·by_cases h15:i=13
   ·subst h15;have l14:l 12=true:=hwt _ rfl ⟨12,.data⟩ (by simp) rfl;obtain⟨hm,hp⟩:=hg.2.2.2 rfl;refine⟨⟨hob,hp⟩,(fun e=>by simp[done,l14] at e),(fun _ e=>by simp[done] at e),fun _=>hm⟩
   ·(have e14:done l i 12=l 12:=by unfold done;rw[if_neg (fun e=>h14 e.symm)]);have e15:done l i 13=l 13:=by unfold done;rw[if_neg (fun e=>h15 e.symm)]
    rw[e14,e15,hg.2.1 h14 h15];exact hW
 case front=>
  intro i o a' wz l ho hi' hli hcl hwt hE hW hd K hK;have t0:a'.tmps[0]?.getD undef=.pointer (some ⟨PB,0,none⟩):=(evn a' 0).symm.trans (hE.at_ (by simp) (by omega));have t3:a'.tmps[3]?.getD undef=.pointer (some ⟨w.heap.size,0,none⟩):=(evn a' 3).symm.trans (hE.at_ (by simp) (by omega));obtain⟨z1,z0,z4,z2,z3,z5⟩:=WW wz hW.1;have HW:=hZ hW;have HCL:=hZ hcl;clear hE hW hcl
  match i,ho,hi',hli,hwt,HCL,hd,hK with
  |0,ho,_,_,_,_,hd,hK=>obtain rfl:=oZ ho;clear hd;unfold Oper.wp;go_simp;exact hK _ _ ⟨Kx.gr gZ,fun _ _=>rfl,(fun e=>by cases e),(fun e=>by cases e)⟩ rfl
  |1,ho,_,_,_,_,hd,hK=>obtain rfl:=oZ ho;have e0:a'.eval (.tmp 92)=.pointer (some ⟨PB,0,none⟩):=hd ⟨0,.data⟩ (by simp) rfl;rw[evn] at e0;clear hd;unfold Oper.wp;go_simp;exact hK _ _ ⟨Kx.gr gZ,fun _ _=>rfl,(fun e=>by cases e),(fun e=>by cases e)⟩ rfl
  |2,ho,_,_,_,_,hd,hK=>obtain rfl:=oZ ho;have e0:a'.eval (.tmp 93)=.pointer (some ⟨PB,0,none⟩):=hd ⟨1,.data⟩ (by simp) rfl;rw[evn] at e0;clear hd;unfold Oper.wp;go_simp;exact hK _ _ ⟨Kx.gr gZ,fun _ _=>rfl,(fun e=>by cases e),(fun e=>by cases e)⟩ rfl
  |3,ho,_,_,_,_,hd,hK=>obtain rfl:=oZ ho;have e0:a'.eval (.tmp 94)=.pointer (some ⟨PB,0,none⟩):=hd ⟨2,.data⟩ (by simp) rfl;rw[evn] at e0;clear hd;unfold Oper.wp;go_simp;exact hK _ _ ⟨Kx.gr gZ,fun _ _=>rfl,(fun e=>by cases e),(fun e=>by cases e)⟩ rfl
  |4,ho,_,_,_,_,hd,hK=>obtain rfl:=oZ ho;clear hd;unfold Oper.wp;go_simp;exact hK _ _ ⟨Kx.gr gZ,fun _ _=>rfl,(fun e=>by cases e),(fun e=>by cases e)⟩ rfl
  |5,ho,_,_,_,_,hd,hK=>obtain rfl:=oZ ho;have e0:a'.eval (.tmp 96)=.pointer (some ⟨w.heap.size,2,none⟩):=hd ⟨4,.data⟩ (by simp) rfl;rw[evn] at e0;clear hd;unfold Oper.wp;go_simp;exact hK _ _ ⟨Kx.gr gZ,fun _ _=>rfl,(fun e=>by cases e),(fun e=>by cases e)⟩ rfl
  |6,ho,_,_,_,_,hd,hK=>obtain rfl:=oZ ho;clear hd;unfold Oper.wp;go_simp;exact hK _ _ ⟨Kx.gr gZ,fun _ _=>rfl,(fun e=>by cases e),(fun e=>by cases e)⟩ rfl
  |7,ho,_,_,_,_,hd,hK=>obtain rfl:=oZ ho;have e0:a'.eval (.tmp 98)=.pointer (some ⟨PB,0,none⟩):=hd ⟨6,.data⟩ (by simp) rfl;rw[evn] at e0;clear hd;unfold Oper.wp;go_simp;exact hK _ _ ⟨Kx.gr gZ,fun _ _=>rfl,(fun e=>by cases e),(fun e=>by cases e)⟩ rfl
  |8,ho,_,_,_,_,hd,hK=>obtain rfl:=oZ ho;have e0:a'.eval (.tmp 99)=.pointer (some ⟨PB,0,none⟩):=hd ⟨7,.data⟩ (by simp) rfl;rw[evn] at e0;clear hd;unfold Oper.wp;go_simp;exact hK _ _ ⟨Kx.gr gZ,fun _ _=>rfl,(fun e=>by cases e),(fun e=>by cases e)⟩ rfl
  |9,ho,_,_,_,_,hd,hK=>obtain rfl:=oZ ho;have e0:a'.eval (.tmp 100)=.pointer (some ⟨PB,2,none⟩):=hd ⟨8,.data⟩ (by simp) rfl;rw[evn] at e0;clear hd;unfold Oper.wp;go_simp;exact hK _ _ ⟨Kx.gr gZ,fun _ _=>rfl,(fun e=>by cases e),(fun e=>by cases e)⟩ rfl
  |10,ho,_,_,_,_,hd,hK=>obtain rfl:=oZ ho;clear hd;unfold Oper.wp;go_simp;exact hK _ _ ⟨Kx.gr gZ,fun _ _=>rfl,(fun e=>by cases e),(fun e=>by cases e)⟩ rfl
  |11,ho,_,_,_,_,hd,hK=>obtain rfl:=oZ ho;have e0:a'.eval (.tmp 102)=.pointer (some ⟨w.heap.size,5,none⟩):=hd ⟨10,.data⟩ (by simp) rfl;rw[evn] at e0;clear hd;unfold Oper.wp;go_simp;exact hK _ _ ⟨Kx.gr gZ,fun _ _=>rfl,(fun e=>by cases e),(fun e=>by cases e)⟩ rfl
  |12,ho,_,hli,_,_,hd,hK=>obtain rfl:=oZ ho;have e0:a'.eval (.tmp 101)=.pointer (some ⟨LB,0,none⟩):=hd ⟨9,.data⟩ (by simp) rfl;have e1:a'.eval (.tmp 103)=.slice fad f.length fc:=hd ⟨11,.data⟩ (by simp) rfl;rw[evn] at e0 e1;have GZ:=hZ (HW.2.1 hli);have CC:=hZ (CPY wz GZ.out);have HSZ:Hid (w.heap.size<wz.heap.size):=fZ HW.1.1;clear hd hli z0 z1 z2 z3 z4 z5 HW;unfold Oper.wp;go_simp;refine CC.mono ?_;rintro e w1 ⟨ad',cap',he,q1,q2,q3⟩;subst he;have HM:=hZ (And.intro q1 (And.intro q2 (KD wz w1 HSZ.out q3)));clear q1 q2 q3 CC;go_simp;exact hK _ _ ⟨HM.2.2,(fun e=>absurd rfl e),fun _=>HM.2.1,(fun e=>by cases e)⟩ ⟨ad',cap',rfl,HM.1⟩
  |13,ho,_,hli,hwt,_,hd,hK=>obtain rfl:=oZ ho;have e0:a'.eval (.tmp 95)=.pointer (some ⟨T.TB,0,none⟩):=hd ⟨3,.data⟩ (by simp) rfl;have e1:a'.eval (.tmp 97)=.int .i64 a:=hd ⟨5,.data⟩ (by simp) rfl;have e3':∃ad cap,a'.eval (.tmp 104)=.slice ad f.length cap/\Ecp w.heap.size wz ad f:=hd ⟨12,.data⟩ (by simp) rfl;obtain⟨ad,cap,e3,q0⟩:=e3';rw[evn] at e0 e1 e3;have l14:l 12=true:=hwt _ rfl ⟨12,.data⟩ (by simp) rfl;have CP:=hZ (HW.2.2.1 l14 hli);have CC:=hZ (HP' wz w.heap.size ad cap (CTF wz CP.out) q0);have PZ:=hZ HW.1.2;clear hd hli hwt l14 q0 z0 z1 z2 z3 z4 z5 HW;unfold Oper.wp;go_simp;refine CC.mono ?_;rintro e w1 ⟨he,r1,q1,q2⟩;subst he;have HM:Hid (MdS A T C r R LB PB BB B D L M w cs s cs' s' w1/\w1.heap[PB]?=some po):=⟨⟨r1,wz,CP.out,q1,q2⟩,PBF r1 wz w1 q2 po PZ.out⟩;have HK:=hZ (KF r1 wz w1 q2);clear q1 q2 CC;go_simp;exact hK _ _ ⟨HK.out,(fun _ e=>absurd rfl e),(fun e=>by cases e),fun _=>HM.out⟩ rfl
  |k+14,_,hi',_,_,_,_,_=>exact absurd hi' (by omega)
 case last=>
  intro o a' wz ho hE hW hd K hK;obtain rfl:=oZ ho;have e15:a'.eval (.tmp 105)=.int .i64 code:=hd 13 (by omega);have hdf:=hE.df;obtain⟨l,hW,hl⟩:=hW;have MD:=hZ (hW.2.2.2 (hl 13 (by omega)));have BZ:=hZ hW.1;obtain⟨z,hz,hts⟩:=hE.ts;have HTS:=hZ (And.intro hz (And.intro hts hdf));clear hz hts hdf hd hE ho hW hl;rw[evn] at e15;unfold Oper.wp;go_simp;refine hK _ _ ?_;clear hK;obtain⟨hz,hts,hdf⟩:=HTS.out;obtain⟨z0,z1,z2,z3,z4,z5,z6,z7,z8,z9,z10,z11,z12,z13,rfl⟩:∃z0 z1 z2 z3 z4 z5 z6 z7 z8 z9 z10 z11 z12 z13,z=[z0,z1,z2,z3,z4,z5,z6,z7,z8,z9,z10,z11,z12,z13]:=by
   match z,hz with
   |[z0,z1,z2,z3,z4,z5,z6,z7,z8,z9,z10,z11,z12,z13],_=>exact⟨z0,z1,z2,z3,z4,z5,z6,z7,z8,z9,z10,z11,z12,z13,rfl⟩
  obtain⟨tm,df⟩:=a';simp only at hts hdf;subst hts hdf;clear hz HTS;simp only[bP,bY,bQ,bX,bD,bM];have FC:Hid (∀W,Gr wz W->EvC A W fad f/\Rw A C T R W cs s):=fun W g=>⟨(FCM wz MD.out).1.gr g,(FCM wz MD.out).2.1.gr g⟩;have WW2:Hid (∀W,Kx (fun k=>R k≠.no) wz W->W.cell? ⟨PB,1,none⟩=some (.pointer (some ⟨C.TB,0,none⟩))/\W.cell? ⟨w.heap.size,2,none⟩=some (.int .i64 a)/\W.cell? ⟨w.heap.size,3,none⟩=some (.int .i64 b)/\W.cell? ⟨w.heap.size,5,none⟩=some (.slice fad f.length fc)):=fun W g=>by obtain⟨_,c1,_,c2,c3,c4⟩:=WW W ⟨(g.keep _ (fZ BZ.1) (fun e=>e TPR.out)).trans BZ.1,(g.keep _ (fZ BZ.2) (fun e=>e NPR.out)).trans BZ.2⟩;exact⟨c1,c2,c3,c4⟩
  clear WW CPY KD KF PBF FCM CTF CPB HP';go_wp2_with fail;refine nI rfl 12 10 (by decide) (by rfl) (fun i=>106+i) (fun i _ j _ h=>by omega) (RpT PB C.TB w.heap.size a fad f.length fc code) (Ef0 _ 106 12) (fun t W=>Kx (fun k=>R k≠.no) wz W/\(t=false->Gr wz W)/\(t=true->∃R2,Rw A C T R2 W cs' s'/\Fr R R2 wz W)) (fun i wa wb=>(i≠10->wb=wa)/\(i=10->∃R2,Rw A C T R2 wb cs' s'/\Fr R R2 wz wb)) (fun a i x hi h=>Ef0.put (by simp) a i x hi h) (fun a h i hi=>by have:=h.sz (by simp);simp at this;omega) (fun i t wa wb hi h g=>by rw[g.1 hi];exact h) (fun wa wb h g=>by obtain⟨R2,m1,m2⟩:=g.2 rfl;exact⟨m2.kx,(fun e=>by cases e),fun _=>⟨R2,m1,m2⟩⟩) (fun i j x wa wb _ h _=>RpT.st j x wa wb h) ?front2 ?last2 (Ef0.start _ 106 12 (by simp)) ⟨Kx.gr (Gr.refl wz).drew,fun _=>(Gr.refl wz).drew,(fun e=>by cases e)⟩;case front2=>
   intro i o a' wy t ho hi' hmt hE hW hd K hK;have t0:a'.tmps[0]?.getD undef=.pointer (some ⟨PB,0,none⟩):=(evn a' 0).symm.trans (hE.at_ (by simp) (by omega));have t3:a'.tmps[3]?.getD undef=.pointer (some ⟨w.heap.size,0,none⟩):=(evn a' 3).symm.trans (hE.at_ (by simp) (by omega));have t6:a'.tmps[8]?.getD undef=.int .i64 code:=(evn a' 8).symm.trans (hE.at_ (by simp) (by omega));obtain⟨z1,z2,z3,z4⟩:=WW2 wy hW.1;have HW:=hZ hW;clear hE hW
   match i,ho,hi',hmt,hd,hK with
   |0,ho,_,_,hd,hK=>obtain rfl:=oZ ho;clear hd;unfold Oper.wp;go_simp;exact hK _ _ ⟨fun _=>rfl,(fun e=>by cases e)⟩ rfl
   |1,ho,_,_,hd,hK=>obtain rfl:=oZ ho;have e0:a'.eval (.tmp 106)=.int .i64 code:=hd ⟨0,.data⟩ (by simp) rfl;rw[evn] at e0;clear hd;unfold Oper.wp;go_simp;refine(nU code wy).mono ?_;rintro e w5 ⟨rfl,hw5⟩;go_simp;exact hK _ _ ⟨fun _=>rfl,(fun e=>by cases e)⟩ rfl
   |2,ho,_,_,hd,hK=>obtain rfl:=oZ ho;clear hd;unfold Oper.wp;go_simp;exact hK _ _ ⟨fun _=>rfl,(fun e=>by cases e)⟩ rfl
   |3,ho,_,_,hd,hK=>obtain rfl:=oZ ho;have e0:a'.eval (.tmp 108)=.pointer (some ⟨PB,0,none⟩):=hd ⟨2,.data⟩ (by simp) rfl;rw[evn] at e0;clear hd;unfold Oper.wp;go_simp;exact hK _ _ ⟨fun _=>rfl,(fun e=>by cases e)⟩ rfl
   |4,ho,_,_,hd,hK=>obtain rfl:=oZ ho;have e0:a'.eval (.tmp 109)=.pointer (some ⟨PB,0,none⟩):=hd ⟨3,.data⟩ (by simp) rfl;rw[evn] at e0;clear hd;unfold Oper.wp;go_simp;exact hK _ _ ⟨fun _=>rfl,(fun e=>by cases e)⟩ rfl
   |5,ho,_,_,hd,hK=>obtain rfl:=oZ ho;have e0:a'.eval (.tmp 110)=.pointer (some ⟨PB,1,none⟩):=hd ⟨4,.data⟩ (by simp) rfl;rw[evn] at e0;clear hd;unfold Oper.wp;go_simp;exact hK _ _ ⟨fun _=>rfl,(fun e=>by cases e)⟩ rfl
   |6,ho,_,_,hd,hK=>obtain rfl:=oZ ho;clear hd;unfold Oper.wp;go_simp;exact hK _ _ ⟨fun _=>rfl,(fun e=>by cases e)⟩ rfl
   |7,ho,_,_,hd,hK=>obtain rfl:=oZ ho;have e0:a'.eval (.tmp 112)=.pointer (some ⟨w.heap.size,2,none⟩):=hd ⟨6,.data⟩ (by simp) rfl;rw[evn] at e0;clear hd;unfold Oper.wp;go_simp;exact hK _ _ ⟨fun _=>rfl,(fun e=>by cases e)⟩ rfl
   |8,ho,_,_,hd,hK=>obtain rfl:=oZ ho;clear hd;unfold Oper.wp;go_simp;exact hK _ _ ⟨fun _=>rfl,(fun e=>by cases e)⟩ rfl
   |9,ho,_,_,hd,hK=>obtain rfl:=oZ ho;have e0:a'.eval (.tmp 114)=.pointer (some ⟨w.heap.size,5,none⟩):=hd ⟨8,.data⟩ (by simp) rfl;rw[evn] at e0;clear hd;unfold Oper.wp;go_simp;exact hK _ _ ⟨fun _=>rfl,(fun e=>by cases e)⟩ rfl
   |10,ho,_,hmt,hd,hK=>obtain rfl:=oZ ho;have e0:a'.eval (.tmp 111)=.pointer (some ⟨C.TB,0,none⟩):=hd ⟨5,.data⟩ (by simp) rfl;have e1:a'.eval (.tmp 113)=.int .i64 a:=hd ⟨7,.data⟩ (by simp) rfl;have e3:a'.eval (.tmp 115)=.slice fad f.length fc:=hd ⟨9,.data⟩ (by simp) rfl;rw[evn] at e0 e1 e3;have GZ:=hZ (HW.2.1 (hmt rfl));have CC:=hZ (HR' wy (FC wy GZ.out).2 (FC wy GZ.out).1);clear hd hmt z1 z2 z3 z4 HW;unfold Oper.wp;go_simp;refine CC.mono ?_;rintro e w5 ⟨he,R2,q1,q2⟩;subst he;have HM:Hid (∃R2,Rw A C T R2 w5 cs' s'/\Fr R R2 wz w5):=⟨R2,q1,(Fr.gr GZ.out).trans q2⟩;clear q1 q2 CC;go_simp;exact hK _ _ ⟨(fun e=>absurd rfl e),fun _=>HM.out⟩ rfl
   |11,ho,_,_,hd,hK=>obtain rfl:=oZ ho;have e0:a'.eval (.tmp 107)=.int .i64 code:=hd ⟨1,.data⟩ (by simp) rfl;rw[evn] at e0;have e1:a'.eval (.tmp 116)=.int .i64 code:=hd ⟨10,.data⟩ (by simp) rfl;rw[evn] at e1;clear hd;unfold Oper.wp;go_simp;exact hK _ _ ⟨fun _=>rfl,(fun e=>by cases e)⟩ rfl
   |k+12,_,hi',_,_,_=>exact absurd hi' (by omega)
  case last2=>
   intro o a' wy ho hE hW hd K hK;obtain rfl:=oZ ho;have e13:a'.eval (.tmp 117)=.bool true:=hd 11 (by omega);have hdf:=hE.df;obtain⟨R2,q1,q2⟩:=hW.2.2 rfl;obtain⟨r1,D',FN⟩:=MD.fin q2 q1;have FIN:=hZ FN;obtain⟨z,hz,hts⟩:=hE.ts;have HTS:=hZ (And.intro hz (And.intro hts hdf));clear hz hts hdf hd hE ho hW q1 q2 FN;rw[evn] at e13;unfold Oper.wp;go_simp;refine hK _ _ ?_;clear hK;obtain⟨hz,hts,hdf⟩:=HTS.out;obtain⟨y0,y1,y2,y3,y4,y5,y6,y7,y8,y9,y10,y11,rfl⟩:∃y0 y1 y2 y3 y4 y5 y6 y7 y8 y9 y10 y11,z=[y0,y1,y2,y3,y4,y5,y6,y7,y8,y9,y10,y11]:=by
    match z,hz with
    |[y0,y1,y2,y3,y4,y5,y6,y7,y8,y9,y10,y11],_=>exact⟨y0,y1,y2,y3,y4,y5,y6,y7,y8,y9,y10,y11,rfl⟩
   obtain⟨tm,df⟩:=a';simp only at hts hdf;subst hts hdf;clear hz HTS;simp only[bP,bY,bQ,bX,bD,bM];go_wp2_with fail;go_ret;exact⟨rfl,r1,R2,D',cs',s',HC.out,FIN.out⟩
structure Stp where
 wh:Int
 kind:Int
 a:Int
 b:Int
 f:List Wnt
 fad:Option Addr
 fc:Nat
 e:List Atr
 ead:Option Addr
 ec:Nat
def Stp.v(x:Stp):Value:=lK x.wh x.kind x.a x.b x.fad x.f.length x.fc x.ead x.e.length x.ec
structure SpOk(A:Nat->Prop)(w:World)(Ks:List Ky)(x:Stp):Prop where
 f:FiC A w x.fad x.f
 e:EvC A w x.ead x.e
 a:I64 x.a
 b:I64 x.b
 k:(x.a,x.b)∈Ks
theorem SpOk.keep{x:Stp}(h:SpOk A w Ks x)(hs:w.heap.size<=w'.heap.size)(hk:∀k,k<w.heap.size->A k->w'.heap[k]?=w.heap[k]?):SpOk A w' Ks x:=⟨h.f.keep hs hk,h.e.keep hs hk,h.a,h.b,h.k⟩
section
variable {A:Nat->Prop}{T:Tc}{C:Rc}{r R:Nat->Rl}{LB PB BB:Nat}{B D:Nat->Prop}{L M:Nat}{w:World}{cs:List (Pc (List Atr))}{s:Ts}
theorem St.up(h:St A T C r R LB PB BB B D L M w cs s){M':Nat}(hL:L<=L')(hM:M<=M'):St A T C r R LB PB BB B D L' M' w cs s:=⟨h.pr,h.bo.up hL,h.le.up hM,h.sB,h.sD⟩
end
def Am(A:Nat->Prop)(T:Tc)(C:Rc)(r R:Nat->Rl)(LB PB BB:Nat)(B D:Nat->Prop)(L M:Nat)(nxt:Nat->Nat->Int)(rank:Nat->Nat->Nat)(Ks:List Ky)(Mw:Nat)(w:World)(e:Ending)(w':World):Prop:=e=.returned (.bool true)/\∃r' R' B' D' cs' s',St A T C r' R' LB PB BB B' D' (L+72) (M+1) w' cs' s'/\Wl T nxt rank Ks cs' s' (Mw+8*(Ks.length+1))/\(∀k,k<w.heap.size->B' k->B k\/r k≠.no)/\(∀k,k<w.heap.size->D' k->D k)/\Kq r R r' R' B D w w'
section
variable {A:Nat->Prop}{T:Tc}{C:Rc}{r R:Nat->Rl}{LB PB BB:Nat}{B D:Nat->Prop}{L M:Nat}{w:World}{cs:List (Pc (List Atr))}{s:Ts}{nxt:Nat->Nat->Int}{rank:Nat->Nat->Nat}{Ks:List Ky}{Mw:Nat}
theorem Am.of(hC:∀cs' s',Ch cs' s'->Wl T nxt rank Ks cs' s' (Mw+8*(Ks.length+1))){e:Ending}(h:Ir A T C r R LB PB BB B D L M Ch w e w'):Am A T C r R LB PB BB B D L M nxt rank Ks Mw w e w':=by obtain⟨he,r',R',cs',s',h1,h2,h3⟩:=h;exact⟨he,r',R',B,D,cs',s',h2.up (by omega) (by omega),hC _ _ h1,fun _ _ e=>Or.inl e,fun _ _ e=>e,h3⟩
theorem Am.look(W:Wl T nxt rank Ks cs s Mw){e:Ending}(h:vO A T C r R LB PB BB B D L M w cs s e w'):Am A T C r R LB PB BB B D L M nxt rank Ks Mw w e w':=by obtain⟨he,B',h1,h2,h3⟩:=h;exact⟨he,r,R,B',D,cs,s,h2.up (by omega) (by omega),W.up (by omega),fun k hk e=>Or.inl (h1 k hk e),fun _ _ e=>e,h3,fun _ _=>⟨fun e=>e,fun e=>e⟩⟩
theorem St.stepAny(h:St A T C r R LB PB BB B D L M w cs s)(W:Wl T nxt rank Ks cs s Mw)(S:Sh T nxt rank)(hlk:(lks T).length<=14)(hL:L<=1099511627000)(hM:M<=1099511627000)(hK:Ks.length<=1048576)(hMw:Mw<549755813888)(x:Stp)(hx:SpOk A w Ks x):Calls prog 9 #[.pointer (some ⟨PB,0,none⟩),x.v] w fun e w'=>Am A T C r R LB PB BB B D L M nxt rank Ks Mw w e w':=by
 have hadj:=h.pr.p.b.adj;have hn8:=h.pr.p.b.nb8;have hm:=W.sm S hK hMw;obtain⟨wh,kind,a,b,f,fad,fc,e,ead,ec⟩:=x;obtain⟨hf,hev,ha,hb,hk⟩:=hx;simp only at hf hev ha hb hk;unfold Stp.v;simp only;by_cases k1:kind=1
 ·subst k1;refine(h.step1 wh a b fad f.length fc ead e.length ec (Eh h.pr.p h.pr.q a b ha W.le)).mono (fun e w' he=>Am.of (fun cs' s' hc=>?_) he);obtain⟨rfl,rfl|⟨b',j1,j2,j3,rfl⟩⟩:=hc
  ·exact W.up (by omega)
  ·exact(W.attach j1 j2 j3).up (by omega)
 by_cases k2:kind=2
 ·subst k2;refine(h.step2 (by omega) wh a b f fad fc hf ead e.length ec (Qx hm W.srt W.un W.le W.at' a b ha hb f fad fc hf.wf (aA hf.len (by decide)) (W.fr S) (W.insLen hK a b f hk))).mono ?_;rintro e w' ⟨he,r',R',D',cs',s',⟨rfl,hc⟩,j1,j2,j3⟩;refine⟨he,r',R',B,D',cs',s',j2.up (by omega) lZ,?_,fun _ _ e=>Or.inl e,j1,j3⟩;rcases hc with rfl|⟨c,hc,rfl,i1,i2,rfl⟩
  ·exact W.up (by omega)
  ·exact W.sub S hn8 hc i1 hf.wf i2 hk
 by_cases k3:kind=3
 ·subst k3;refine(h.step3 wh a b fad f.length fc ead e.length ec (Qq h.pr.p hm W.srt W.un W.le W.at' a b ha hb)).mono (fun e w' he=>Am.of (fun cs' s' hc=>?_) he);obtain⟨rfl,rfl|⟨c,hc,rfl,i1,rfl⟩⟩:=hc
  ·exact W.up (by omega)
  ·exact W.uns S hn8 hc i1
 by_cases k4:kind=4
 ·subst k4;obtain⟨home,n,K2,g,i1,i2,i3⟩:=W.gd;refine(h.step4 (by omega) wh a b e ead ec hev fad f.length fc (Sc (W.chm i1) S g hK hMw W.un a ha e ead ec hev.wf (aA hev.len (by decide)))).mono ?_;rintro e' w' ⟨he,r',R',D',cs',s',hc,j1,j2,j3⟩;refine⟨he,r',R',B,D',cs',s',j2.up (by omega) lZ,?_,fun _ _ e=>Or.inl e,j1,j3⟩;rcases hc with⟨rfl,rfl⟩|⟨c,hc,rfl,rfl,rfl⟩
  ·exact W.up (by omega)
  ·exact W.pub S hn8 hc e (List.length_pos_of_mem hk)
 by_cases k5:kind=5
 ·subst k5;obtain⟨home,n,K2,g,i1,i2,i3⟩:=W.gd;refine(h.step5 wh a b fad f.length fc ead e.length ec (Np h.pr.p (W.chm i1) S g hK hMw a b ha hb)).mono (fun e w' he=>Am.of (fun cs' s' hc=>?_) he);obtain⟨j1,j2,n',j3,j4⟩:=hc;exact(W.of i1 (j2 K2 i2) i3 j1 j4).up (Nat.le_add_right _ _)
 by_cases k6:kind=6
 ·subst k6;obtain⟨home,n,K2,g,i1,i2,i3⟩:=W.gd;refine(h.step6 wh a b fad f.length fc ead e.length ec (Kf h.pr.p (W.chm i1) S g hK hMw)).mono (fun e w' he=>Am.of (fun cs' s' hc=>?_) he);obtain⟨j1,j2,n',j3,j4⟩:=hc;exact(W.of i1 (j2 K2 i2) i3 j1 j4).up (Nat.le_add_right _ _)
 by_cases k7:kind=7
 ·subst k7;refine(h.step7 wh a b fad f.length fc ead e.length ec (by omega) (zV h.pr.p W.un W.le W.box a ha)).mono ?_;rintro e' w' ⟨he,r',B',j1,j2,j3⟩;exact⟨he,r',R,B',D,_,s,j2.up (by omega) (by omega),(W.clr a).up (by omega),j1,fun _ _ e=>e,j3⟩
 by_cases k8:kind=8
 ·subst k8;exact(h.step8 wh a b fad f.length fc ead e.length ec hm (by omega)).mono (fun e w' he=>Am.look W he)
 by_cases k9:kind=9
 ·subst k9;exact(h.step9 wh a b fad f.length fc ead e.length ec hm W.srt hadj hlk (by omega) hb).mono (fun e w' he=>Am.look W he)
 refine(No wh kind a b fad f.length fc ead e.length ec k1 k2 k3 k4 k5 k6 k7 k8 k9).mono ?_;rintro e w' ⟨he,g⟩;exact⟨he,r,R,B,D,cs,s,(h.gr g).up (by omega) (by omega),W.up (by omega),fun _ _ e=>Or.inl e,fun _ _ e=>e,Kx.gr g,fun _ _=>⟨fun e=>e,fun e=>e⟩⟩
end
def xJ(r R:Nat->Rl)(D:Nat->Prop)(PB:Nat):Nat->Prop:=fun k=>r k≠.no\/R k≠.no\/D k\/k=PB
section
variable {A:Nat->Prop}{T:Tc}{C:Rc}{r R:Nat->Rl}{LB PB BB:Nat}{B D:Nat->Prop}{L M:Nat}{w:World}{cs:List (Pc (List Atr))}{s:Ts}
theorem St.other(h:St A T C r R LB PB BB B D L M w cs s)(kx:Kx E w w')(hO:∀k,xJ r R D PB k->¬E k)(hA:∀k,A k->¬E k)(h0:¬E 0)(bo:Bo BB B' L' w')(hB:∀k,k<w.heap.size->B' k->B k\/(¬xJ r R D PB k/\¬A k/\k≠0)):St A T C r R LB PB BB B' D L' M w' cs s:=by
 have tr:=h.pr.p.b.top;have tR:=h.pr.q.top.1;have tA:=h.pr.q.top.2;have tp:=fZ h.pr.pb;have t0:0<w.heap.size:=h.pr.p.b.ml.pos;have tD:=h.le.lt;refine⟨h.pr.apart kx.fr (fun k=>?_) (fun k=>?_) (fun k hk=>kS (hA k hk)) (kS h0) (kS (hO PB (Or.inr (Or.inr (Or.inr rfl))))),bo,h.le.apart kx (fun k hk=>hO k (Or.inr (Or.inr (Or.inl hk)))) hA,fun k hk=>?_,h.sD⟩
 ·by_cases e:r k=.no
  ·exact Or.inl e
  ·exact Or.inr (kS (hO k (Or.inl e)))
 ·by_cases e:R k=.no
  ·exact Or.inl e
  ·exact Or.inr (kS (hO k (Or.inr (Or.inl e))))
 ·rcases cG k w.heap.size with hl|hl
  ·rcases hB k hl hk with e|⟨e,ea,e0⟩
   ·exact h.sB k e
   ·exact⟨dG.1 (fun c=>e (Or.inl c)),dG.1 (fun c=>e (Or.inr (Or.inl c))),fun c=>e (Or.inr (Or.inr (Or.inl c))),ea,fun c=>e (Or.inr (Or.inr (Or.inr c))),e0⟩
  ·exact⟨tr k hl,tR k hl,fun c=>absurd (tD k c) (by omega),fun c=>absurd (tA k c) (by omega),by omega,by omega⟩
theorem St.aR(h:St A T C r R LB PB BB B D L M w cs s):∀k,A k->R k=.no:=by obtain⟨ads,Xs,lv,Ls,cv,rs,rt,_⟩:=h.pr.q;exact rt.b.aR
theorem St.ownLt(h:St A T C r R LB PB BB B D L M w cs s){k:Nat}(hk:xJ r R D PB k):k<w.heap.size:=by
 rcases hk with e|e|e|e
 ·exact dG.1 (fun c=>e (h.pr.p.b.top k (by omega)))
 ·exact dG.1 (fun c=>e (h.pr.q.top.1 k (by omega)))
 ·exact h.le.lt k e
 ·rw[e];exact fZ h.pr.pb
theorem St.ozA(h:St A T C r R LB PB BB B D L M w cs s){k:Nat}(hk:A k):¬Oz r R B D k:=by
 rintro(e|e|e|e)
 ·exact e (h.pr.ar k hk)
 ·exact e (h.aR k hk)
 ·exact(h.sB k e).2.2.2.1 hk
 ·exact(h.sD k e).2.2.1 hk
theorem St.oz0(h:St A T C r R LB PB BB B D L M w cs s):¬Oz r R B D 0:=by
 rintro(e|e|e|e)
 ·exact e h.pr.p.b.r0
 ·exact e h.pr.R0
 ·exact(h.sB 0 e).2.2.2.2.2 rfl
 ·exact(h.sD 0 e).2.2.2.2 rfl
theorem St.ownB(h:St A T C r R LB PB BB B D L M w cs s){k:Nat}(hk:B k):¬xJ r R D PB k:=by
 obtain⟨a1,a2,a3,a4,a5,a6⟩:=h.sB k hk;rintro(e|e|e|e)
 ·exact e a1
 ·exact e a2
 ·exact a3 e
 ·exact a5 e
end
def aBS(A:Nat->Prop)(BB:Nat)(Ks:List Ky)(B:Nat->Prop)(L Mw:Nat)(w:World)(PB:Nat)(O:Nat->Prop):Prop:=∃T C r R LB D cs s nxt rank,(∀k,O k↔xJ r R D PB k)/\St A T C r R LB PB BB B D L L w cs s/\Sh T nxt rank/\(lks T).length<=14/\Wl T nxt rank Ks cs s Mw
def Er(A:Nat->Prop)(BB:Nat)(Ks:List Ky)(B:Nat->Prop)(L Mw:Nat)(w:World)(v:Option Nat)(O:Nat->Prop):Prop:=
 match v with
 |none=>∀k,¬O k
 |some PB=>aBS A BB Ks B L Mw w PB O
def pv(v:Option Nat):Value:=.pointer (v.map fun PB=>⟨PB,0,none⟩)
section
variable {A:Nat->Prop}{BB:Nat}{Ks:List Ky}{B:Nat->Prop}{L Mw:Nat}{w:World}{v:Option Nat}{O:Nat->Prop}
theorem Er.other(h:Er A BB Ks B L Mw w v O)(kx:Kx E w w')(hO:∀k,O k->¬E k)(hA:∀k,A k->¬E k)(h0:¬E 0)(bo:Bo BB B' L' w')(hB:∀k,k<w.heap.size->B' k->B k\/(¬O k/\¬A k/\k≠0))(hL:L<=L')(hM:Mw<=Mw'):Er A BB Ks B' L' Mw' w' v O:=by
 cases v with
 |none=>exact h
 |some PB=>obtain⟨T,C,r,R,LB,D,cs,s,nxt,rank,h1,h2,h3,h4,h5⟩:=h;exact⟨T,C,r,R,LB,D,cs,s,nxt,rank,h1,(h2.other kx (fun k hk=>hO k ((h1 k).2 hk)) hA h0 bo (fun k hl hk=>(hB k hl hk).imp id (fun⟨a,b,c⟩=>⟨fun e=>a ((h1 k).2 e),b,c⟩))).up lZ hL,h3,h4,h5.up hM⟩
theorem Er.lt(h:Er A BB Ks B L Mw w v O){k:Nat}(hk:O k):k<w.heap.size:=by
 cases v with
 |none=>exact absurd hk (h k)
 |some PB=>obtain⟨T,C,r,R,LB,D,cs,s,nxt,rank,h1,h2,_⟩:=h;exact h2.ownLt ((h1 k).1 hk)
theorem Er.nB(h:Er A BB Ks B L Mw w v O){k:Nat}(hk:O k):¬B k:=by
 cases v with
 |none=>exact absurd hk (h k)
 |some PB=>obtain⟨T,C,r,R,LB,D,cs,s,nxt,rank,h1,h2,_⟩:=h;exact fun hb=>h2.ownB hb ((h1 k).1 hk)
end
structure Jt(A G:Nat->Prop)(w0:World)(BB:Nat)(Ks:List Ky)(L Mw:Nat)(w:World)(v1 v2:Option Nat)(B O1 O2:Nat->Prop):Prop where
 bo:Bo BB B L w
 a:Er A BB Ks B L Mw w v1 O1
 b:Er A BB Ks B L Mw w v2 O2
 ap:∀k,O1 k->¬O2 k
 kp:∀k,A k\/G k->w.heap[k]?=w0.heap[k]?
 al:∀k,A k\/G k->k<w.heap.size
 sz:w0.heap.size<=w.heap.size
 nb:∀k,B k->¬A k/\k≠0
 gn:∀k,G k->¬O1 k/\¬O2 k/\¬B k
 io:w.os=w0.os/\w.tape=w0.tape/\w.output=w0.output
 ml:∃m,Ml m w
def Jx(A G:Nat->Prop)(w0:World)(BB:Nat)(Ks:List Ky)(L Mw:Nat)(w:World)(v1 v2:Option Nat):Prop:=∃B O1 O2,Jt A G w0 BB Ks L Mw w v1 v2 B O1 O2
section
variable {A G:Nat->Prop}{w0:World}{BB:Nat}{Ks:List Ky}{L Mw:Nat}{w:World}{v1 v2:Option Nat}
theorem Jx.swap(h:Jx A G w0 BB Ks L Mw w v1 v2):Jx A G w0 BB Ks L Mw w v2 v1:=by obtain⟨B,O1,O2,h⟩:=h;exact⟨B,O2,O1,h.bo,h.b,h.a,fun k h2 h1=>h.ap k h1 h2,h.kp,h.al,h.sz,h.nb,fun k hk=>⟨(h.gn k hk).2.1,(h.gn k hk).1,(h.gn k hk).2.2⟩,h.io,h.ml⟩
theorem Jt.gr(h:Jt A G w0 BB Ks L Mw w v1 v2 B O1 O2)(g:Gr w w'):Jt A G w0 BB Ks L Mw w' v1 v2 B O1 O2:=by have bo:=h.bo.gr g;exact⟨bo,h.a.other (E:=fun _=>False) (Kx.gr g) (fun _ _ e=>e) (fun _ _ e=>e) (fun e=>e) bo (fun _ _ e=>Or.inl e) lZ lZ,h.b.other (E:=fun _=>False) (Kx.gr g) (fun _ _ e=>e) (fun _ _ e=>e) (fun e=>e) bo (fun _ _ e=>Or.inl e) lZ lZ,h.ap,fun k hk=>(g.block k (h.al k hk)).trans (h.kp k hk),fun k hk=>aF (h.al k hk) g.size,aA h.sz g.size,h.nb,h.gn,⟨g.os.trans h.io.1,g.tape.trans h.io.2.1,g.output.trans h.io.2.2⟩,h.ml.imp fun m hm=>g.ml hm⟩
theorem Jx.gr(h:Jx A G w0 BB Ks L Mw w v1 v2)(g:Gr w w'):Jx A G w0 BB Ks L Mw w' v1 v2:=by obtain⟨B,O1,O2,h⟩:=h;exact⟨B,O1,O2,h.gr g⟩
theorem Jx.up(h:Jx A G w0 BB Ks L Mw w v1 v2)(hL:L<=L')(hM:Mw<=Mw'):Jx A G w0 BB Ks L' Mw' w v1 v2:=by obtain⟨B,O1,O2,h⟩:=h;have bo:=h.bo.up hL;exact⟨B,O1,O2,bo,h.a.other (E:=fun _=>False) (Kx.gr gZ) (fun _ _ e=>e) (fun _ _ e=>e) (fun e=>e) bo (fun _ _ e=>Or.inl e) hL hM,h.b.other (E:=fun _=>False) (Kx.gr gZ) (fun _ _ e=>e) (fun _ _ e=>e) (fun e=>e) bo (fun _ _ e=>Or.inl e) hL hM,h.ap,h.kp,h.al,h.sz,h.nb,h.gn,h.io,h.ml⟩
theorem Jx.whole(h:Jx A G w0 BB Ks L Mw w v1 v2)(hL:L<=1099511627776):Calls prog 11 #[.pointer (some ⟨BB,0,none⟩)] w fun e w'=>e=.returned (.bool true)/\Jx A G w0 BB Ks L Mw w' v1 v2:=by obtain⟨B,O1,O2,j⟩:=h;exact(j.bo.whole hL).mono (fun e w' he=>⟨he.1,Jx.gr ⟨B,O1,O2,j⟩ he.2⟩)
theorem Jt.turned{r R r' R':Nat->Rl}{LB:Nat}{D':Nat->Prop}{cs':List (Pc (List Atr))}{s s':Ts}(j:Jt A G w0 BB Ks L Mw w (some PB) v2 B O1 O2)(hO:∀k,O1 k↔xJ r R D PB k)(h:St A T C r R LB PB BB B D L M w cs s)(S:Sh T nxt rank)(hl:(lks T).length<=14)(h':St A T C r' R' LB PB BB B' D' L' L' w' cs' s')(W':Wl T nxt rank Ks cs' s' Mw')(hB:∀k,k<w.heap.size->B' k->B k\/r k≠.no)(hD:∀k,k<w.heap.size->D' k->D k)(q:Kq r R r' R' B D w w')(hL:L<=L')(hM:Mw<=Mw'):Jx A G w0 BB Ks L' Mw' w' (some PB) v2:=by
 have nO:∀k,O2 k->¬Oz r R B D k:=fun k h2 e=>by
  have n1:¬xJ r R D PB k:=fun c=>j.ap k ((hO k).2 c) h2;rcases e with e|e|e|e
  ·exact n1 (Or.inl e)
  ·exact n1 (Or.inr (Or.inl e))
  ·exact j.b.nB h2 e
  ·exact n1 (Or.inr (Or.inr (Or.inl e)))
 have nG:∀k,A k\/G k->¬Oz r R B D k:=fun k hk e=>by
  rcases hk with hk|hk
  ·exact h.ozA hk e
  ·obtain⟨g1,g2,g3⟩:=j.gn k hk;have n1:¬xJ r R D PB k:=fun c=>g1 ((hO k).2 c);rcases e with e|e|e|e
   ·exact n1 (Or.inl e)
   ·exact n1 (Or.inr (Or.inl e))
   ·exact g3 e
   ·exact n1 (Or.inr (Or.inr (Or.inl e)))
 have old:∀k,k<w.heap.size->xJ r' R' D' PB k->O1 k:=fun k hlt h1=>by
  obtain⟨e1,e2⟩:=q.2 k hlt;refine(hO k).2 ?_;rcases h1 with e|e|e|e
  ·exact Or.inl (fun c=>e (e1 c))
  ·exact Or.inr (Or.inl (fun c=>e (e2 c)))
  ·exact Or.inr (Or.inr (Or.inl (hD k hlt e)))
  ·exact Or.inr (Or.inr (Or.inr e))
 refine⟨B',xJ r' R' D' PB,O2,h'.bo,⟨T,C,r',R',LB,D',cs',s',nxt,rank,fun _=>Iff.rfl,h',S,hl,W'⟩,j.b.other q.1 nO (fun k hk=>h.ozA hk) h.oz0 h'.bo (fun k hl hk=>(hB k hl hk).imp id (fun e=>⟨fun c=>j.ap k ((hO k).2 (Or.inl e)) c,fun c=>e (h.pr.ar k c),fun c=>e (c▸h.pr.p.b.r0)⟩)) hL hM,fun k h1 h2=>j.ap k (old k (j.b.lt h2) h1) h2,fun k hk=>(q.1.keep k (j.al k hk) (nG k hk)).trans (j.kp k hk),fun k hk=>aF (j.al k hk) q.1.size,aA j.sz q.1.size,fun k hk=>⟨(h'.sB k hk).2.2.2.1,(h'.sB k hk).2.2.2.2.2⟩,fun k hk=>?_,⟨q.1.os.trans j.io.1,q.1.tape.trans j.io.2.1,q.1.output.trans j.io.2.2⟩,T.ml,h'.pr.p.b.ml⟩;have hlt:=j.al k (Or.inr hk);obtain⟨g1,g2,g3⟩:=j.gn k hk;exact⟨fun e=>g1 (old k hlt e),g2,fun e=>(hB k hlt e).elim g3 (fun e=>g1 ((hO k).2 (Or.inl e)))⟩
theorem Jx.step(h:Jx A G w0 BB Ks L Mw w (some PB) v2)(hL:L<=1099511627000)(hK:Ks.length<=1048576)(hMw:Mw<549755813888)(x:Stp)(hx:SpOk A w0 Ks x):Calls prog 9 #[.pointer (some ⟨PB,0,none⟩),x.v] w fun e w'=>e=.returned (.bool true)/\Jx A G w0 BB Ks (L+72) (Mw+8*(Ks.length+1)) w' (some PB) v2:=by obtain⟨B,O1,O2,j⟩:=h;obtain⟨T,C,r,R,LB,D,cs,s,nxt,rank,hO,st,S,hl,W⟩:=j.a;refine(st.stepAny W S hl hL hL hK hMw x (hx.keep j.sz (fun k _ ha=>j.kp k (Or.inl ha)))).mono ?_;rintro e w1 ⟨he,r',R',B',D',cs',s',i1,i2,i3,i4,i5⟩;exact⟨he,j.turned hO st S hl (i1.up lZ (by omega)) i2 i3 i4 i5 (by omega) (by omega)⟩
theorem Jx.still(h:Jx A G w0 BB Ks L Mw w (some PB) v2)(hL:L<=1099511627776):∃LB,w.cell? ⟨PB,2,none⟩=some (.pointer (some ⟨LB,0,none⟩)) /\Calls prog 10 #[.pointer (some ⟨LB,0,none⟩)] w fun e w'=>e=.returned (.bool true)/\Jx A G w0 BB Ks L Mw w' (some PB) v2:=by obtain⟨B,O1,O2,j⟩:=h;obtain⟨T,C,r,R,LB,D,cs,s,nxt,rank,hO,st,S,hl,W⟩:=j.a;refine⟨LB,by rw[cZ st.pr.pb];rfl,(st.le.still hL).mono ?_⟩;rintro e w2 ⟨he,le,kx⟩;have lb:D LB:=st.le.lb;have i6:=st.copied kx (le L) (fun k _ e=>by rw[e];exact lb);exact⟨he,j.turned hO st S hl i6 W (fun _ _ e=>Or.inl e) (fun k _ e=>by rw[e];exact lb) ⟨kx.wide (fun k _ e=>Or.inr (Or.inr (Or.inr e))),fun _ _=>⟨fun e=>e,fun e=>e⟩⟩ lZ lZ⟩
theorem Jx.all(h:Jx A G w0 BB Ks L Mw w (some PB) v2)(hL:L<=1099511620000)(hK:Ks.length<=1048576)(hMw:Mw<549755813888):Calls prog 12 #[.pointer (some ⟨PB,0,none⟩),.bool true] w fun e w'=>e=.returned (.bool true)/\Jx A G w0 BB Ks (L+1492) Mw w' (some PB) v2:=by obtain⟨B,O1,O2,j⟩:=h;obtain⟨T,C,r,R,LB,D,cs,s,nxt,rank,hO,st,S,hl,W⟩:=j.a;refine(st.all (W.sm S hK hMw) W.srt st.pr.p.b.adj hl hL W).mono ?_;rintro e w' ⟨he,r',B',cs',_,W',i0,i1,i2⟩;exact⟨he,j.turned hO st S hl (i1.up lZ (by omega)) W' i0 (fun _ _ e=>e) i2 (by omega) lZ⟩
end
structure Tsh(n:Int)(es:List Ky)(nb:Nat)(adj:Nat->Nat->Bool)(nxt:Nat->Nat->Int):Prop where
 n:n=nb
 n1:1<=nb
 n8:nb<=8
 len:es.length+1=nb
 e:∀a b,adj a b=true↔oX es a b
 N:Nx adj (dom nb nxt)
 Z:Nz nb adj (dom nb nxt)
 R:Rk adj (dom nb nxt) (pV nb (dom nb nxt))
theorem Qs{n:Int}(h:jD n es=true):∃nb adj nxt,Tsh n es nb adj nxt:=by obtain⟨nb,adj,nxt,h1,h2,h3,h4,h5,h6,h7,h8⟩:=Vv h;exact⟨nb,adj,nxt,h1,h2,h3,h4,h5,h6,h7,h8⟩
theorem Tsh.sh{n:Int}{nb:Nat}{adj:Nat->Nat->Bool}(h:Tsh n es nb adj nxt)(TB HB hcap:Nat)(MB:Nat->Nat)(CB LB:Nat)(ml:Int):Sh ⟨nb,adj,TB,HB,hcap,MB,CB,LB,ml⟩ (dom nb nxt) (pV nb (dom nb nxt)):=⟨h.N,h.Z,h.R,fun _ _=>Ps _ _ _ _,Pq h.N h.Z⟩
theorem aA2(S:Sh T nxt rank)(hp:0<T.nb)(h8:T.nb<=8):(lks T).length<=14:=by have h:=Oq S hp (TS.none (List Wnt) (List Atr));rw[Gg,aB] at h;omega
def NpP(n:Int)(es:List Ky)(nb:Nat)(adj:Nat->Nat->Bool)(w:World)(e:Ending)(w':World):Prop:=(jD n es=false/\e=.returned (.tuple #[.pointer none,.int .i64 4])/\Gr w w') \/(jD n es=true/\∃TB HB hcap MB CB LB ml r,e=.returned (.tuple #[.pointer (some ⟨TB,0,none⟩),.int .i64 0])/\Tf ⟨nb,adj,TB,HB,hcap,MB,CB,LB,ml⟩ r w' [] (TS.none (List Wnt) (List Atr))/\Fr (fun _=>.no) r w w')
theorem So(n:Int)(es:List Ky)(ad:Option Addr)(cap:Nat)(w:World)(nb:Nat)(adj:Nat->Nat->Bool)(nxt:Nat->Nat->Int)(hl:es.length<=maxLen)(h:pW w ad es)(hI:∀e∈es,I64 e.1/\I64 e.2)(hml:∃m,Ml m w)(hT:jD n es=true->Tsh n es nb adj nxt):Calls prog 13 #[.int .i64 n,.slice ad es.length cap] w fun e w'=>NpP n es nb adj w e w':=by
 cases ht:jD n es with
 |false=>exact(aAK n es ad cap w hl h hI ht).mono (fun e w' he=>Or.inl ⟨ht,he⟩)
 |true=>
  obtain⟨ml,hml⟩:=hml;have t:=hT ht;have hn:=t.n;subst hn;have hin:=(Ec ht).2;have hes:∀e∈es,∃a b:Nat,e=((a:Int),(b:Int)):=fun e he=>by have:=hin e he;simp only[inR,aP,decide_eq_true_eq] at this;exact⟨e.1.toNat,e.2.toNat,by ext<;>simp<;>omega⟩
  refine(Vg nb es ad cap w adj ml (by have:=t.len;have:=t.n8;omega) h hI ht t.n1 t.n8 t.Z.inn t.e hes hml).mono ?_;rintro e w' ⟨TB,HB,hcap,MB,CB,LB,r,he,h1,h2⟩;exact Or.inr ⟨ht,TB,HB,hcap,MB,CB,LB,ml,r,he,⟨[],h1,rfl⟩,h2⟩
theorem Wv(A:Nat->Prop)(n:Int)(es:List Ky)(ad:Option Addr)(cap:Nat)(w:World)(h:pW w ad es)(hA:∀i,A i->i<w.heap.size):Calls prog 14 #[.int .i64 n,.slice ad es.length cap] w fun e w'=>RnK A w n es e w':=by
 by_cases hn:1<=n/\n<=8/\(es.length:Int)=n-1
 ·obtain⟨k,rfl⟩:∃k:Nat,n=k:=⟨n.toNat,by omega⟩;exact Zl A k es ad cap w (by omega) (by omega) (by omega) h hA
 ·exact Ry A n es ad cap w hn
structure Tw2(A:Nat->Prop)(T:Tc)(C:Rc)(r R:Nat->Rl)(w0 w:World):Prop where
 p:Tf T r w [] (TS.none (List Wnt) (List Atr))
 q:Rw A C T R w [] (TS.none (List Wnt) (List Atr))
 ap:∀k,r k=.no\/R k=.no
 old:∀k,k<w0.heap.size->r k=.no/\R k=.no
 x0:0<w0.heap.size
 xA:∀k,A k->k<w0.heap.size
 sz:w0.heap.size<=w.heap.size
def N2P(A:Nat->Prop)(n:Int)(es:List Ky)(nb:Nat)(adj:Nat->Nat->Bool)(w0:World)(pe:Value)(re:Value)(w:World):Prop:=(jD n es=false/\pe=.tuple #[.pointer none,.int .i64 4]/\re=.tuple #[.pointer none,.int .i64 4]/\Gr w0 w) \/(jD n es=true/\∃T C r R,pe=.tuple #[.pointer (some ⟨T.TB,0,none⟩),.int .i64 0]/\re=.tuple #[.pointer (some ⟨C.TB,0,none⟩),.int .i64 0]/\T.nb=nb/\T.adj=adj/\(∃HB hcap MB CB LB ml,T=⟨nb,adj,T.TB,HB,hcap,MB,CB,LB,ml⟩)/\Tw2 A T C r R w0 w/\Gr w0 w)
theorem N2P.of{n:Int}{nb:Nat}{adj:Nat->Nat->Bool}{w1 w2:World}{pe re:Value}(np:NpP n es nb adj w (.returned pe) w1)(rn:RnK A w1 n es (.returned re) w2)(hT:jD n es=true->Tsh n es nb adj nxt)(hA:∀k,A k->k<w.heap.size)(h0:0<w.heap.size):N2P A n es nb adj w pe re w2:=by
 unfold RnK at rn;rw[sQ] at rn;rcases np with⟨ht,he,g⟩|⟨ht,TB,HB,hcap,MB,CB,LB,ml,r,he,tf,fr⟩
 ·rcases rn with⟨_,he2,g2⟩|⟨ht2,_⟩
  ·injection he with he;injection he2 with he2;exact Or.inl ⟨ht,he,he2,Gr.call g g2⟩
  ·rw[ht] at ht2;cases ht2
 ·rcases rn with⟨ht2,_⟩|⟨_,C,R,lv,Ls,he2,hn,rt,hav,fr2⟩
  ·rw[ht] at ht2;cases ht2
  ·injection he with he;injection he2 with he2;have t:=hT ht;(have hnb:C.nb=nb:=by have:=t.n;omega);refine Or.inr ⟨ht,⟨nb,adj,TB,HB,hcap,MB,CB,LB,ml⟩,C,r,R,he,he2,rfl,rfl,⟨HB,hcap,MB,CB,LB,ml,rfl⟩,⟨tf.apart fr2 (fun _=>Or.inr rfl) rfl,Rw.start rt hnb hav (Ec ht).1 t.e,fun k=>?_,fun k hk=>⟨fr.same k hk,fr2.same k (aF hk fr.size)⟩,h0,hA,aA fr.size fr2.size⟩,Gr.call fr.gr0 fr2.gr0⟩;rcases cG k w1.heap.size with hk|hk
   ·exact Or.inr (fr2.same k hk)
   ·exact Or.inl (tf.b.top k hk)
section
variable {A:Nat->Prop}{T:Tc}{C:Rc}{r R:Nat->Rl}{w0 w w':World}
theorem Tw2.gr(h:Tw2 A T C r R w0 w)(g:Gr w w'):Tw2 A T C r R w0 w':=⟨h.p.gr g,h.q.gr g,h.ap,h.old,h.x0,h.xA,aA h.sz g.size⟩
theorem Tw2.apart(h:Tw2 A T C r R w0 w){IB:Nat}(kx:Kx (fun k=>k=IB) w w')(hl:IB<w0.heap.size)(h0:IB≠0)(hA:¬A IB):Tw2 A T C r R w0 w':=by
 refine⟨h.p.apart kx.fr (fun k=>?_) (kS (fun e=>h0 e.symm)),h.q.apart kx.fr (fun k=>?_) (fun k hk=>kS (fun e=>hA (e▸hk))),h.ap,h.old,h.x0,h.xA,aA h.sz kx.size⟩
 ·by_cases e:k=IB
  ·exact Or.inl (h.old k (e▸hl)).1
  ·exact Or.inr (kS e)
 ·by_cases e:k=IB
  ·exact Or.inl (h.old k (e▸hl)).2
  ·exact Or.inr (kS e)
theorem Tw2.made(h:Tw2 A T C r R w0 w)(g:Gr w w'){LB:Nat}{L:Nat}(lb:w'.heap[LB]?=some (.cells Cg 66 (0,0)))(pb:w'.heap[PB]?=some (.cells #[.pointer (some ⟨T.TB,0,none⟩),.pointer (some ⟨C.TB,0,none⟩),.pointer (some ⟨LB,0,none⟩),.pointer (some ⟨BB,0,none⟩)] 55 (0,0)))(hLB:w.heap.size<=LB)(hPB:w.heap.size<=PB)(hne:LB≠PB)(bo:Bo BB B L w')(hB:∀k,B k->k<w0.heap.size/\¬A k/\k≠0):St A T C r R LB PB BB B (fun k=>k=LB) L 0 w' [] (TS.none (List Wnt) (List Atr)):=by
 have tr:=h.p.b.top;have tR:=h.q.top.1;have hsz:=h.sz;have x0:=h.x0;have z:=h.gr g;refine⟨⟨z.p,z.q,h.ap,fun k hk=>(h.old k (h.xA k hk)).1,(h.old 0 x0).2,pb,⟨tr PB hPB,tR PB hPB⟩⟩,bo,Le.start lb 0 (base:=w0.heap.size) (by omega) (fun k hk=>Or.inl (h.xA k hk)),fun k hk=>?_,fun k hk=>?_⟩
 ·obtain⟨b1,b2,b3⟩:=hB k hk;exact⟨(h.old k b1).1,(h.old k b1).2,by omega,b2,by omega,b3⟩
 ·subst hk;exact⟨tr _ hLB,tR _ hLB,fun c=>absurd (h.xA _ c) (by omega),hne,by omega⟩
end
def OpP(A:Nat->Prop)(n:Int)(es:List Ky)(BB:Nat)(nb:Nat)(adj:Nat->Nat->Bool)(w:World)(e:Ending)(w':World):Prop:=(jD n es=false/\e=.returned (.tuple #[.pointer none,.bool true])/\Gr w w') \/(jD n es=true/\∃T C r R LB PB w0 w3,e=.returned (.tuple #[.pointer (some ⟨PB,0,none⟩),.bool true])/\Gr w w'/\(∃TB HB hcap MB CB LB ml,T=⟨nb,adj,TB,HB,hcap,MB,CB,LB,ml⟩)/\Tw2 A T C r R w0 w3/\w.heap.size<=w0.heap.size/\Gr w3 w'/\w'.heap[LB]?=some (.cells Cg 66 (0,0))/\w'.heap[PB]?=some (.cells #[.pointer (some ⟨T.TB,0,none⟩),.pointer (some ⟨C.TB,0,none⟩),.pointer (some ⟨LB,0,none⟩),.pointer (some ⟨BB,0,none⟩)] 55 (0,0))/\w3.heap.size<=LB/\w3.heap.size<=PB/\LB≠PB)
theorem Jx.openP{G:Nat->Prop}{w0:World}{L Mw:Nat}{v2:Option Nat}{n:Int}{nb:Nat}{adj:Nat->Nat->Bool}{e:Ending}(h:Jx A G w0 BB Ks L Mw w none v2)(hT:jD n es=true->Tsh n es nb adj nxt)(ho:OpP A n es BB nb adj w e w'):∃v:Option Nat,e=.returned (.tuple #[pv v,.bool true])/\(jD n es=true->v≠none)/\Jx A G w0 BB Ks L Mw w' v v2:=by
 rcases ho with⟨ht,he,g⟩|⟨ht,T,C,r,R,LB,PB,wa,w3,he,g,⟨TB,HB,hcap,MB,CB,LB',ml,rfl⟩,tw,hs,g3,lb,pb,hLB,hPB,hne⟩
 ·exact⟨none,he,(fun e=>by rw[ht] at e;cases e),h.gr g⟩
 ·refine⟨some PB,he,(fun _ e=>by cases e),?_⟩;obtain⟨B,O1,O2,j⟩:=h;have lB:=j.bo.lt;have lO:∀k,O2 k->k<w.heap.size:=fun k hk=>j.b.lt hk;have j':=j.gr g;have t:=hT ht;have S:=t.sh TB HB hcap MB CB LB' ml;have sz:=tw.sz;have nO:∀k,k<w.heap.size->¬xJ r R (fun k=>k=LB) PB k:=fun k hk h1=>by
   obtain⟨o1,o2⟩:=tw.old k (by omega);rcases h1 with e|e|e|e
   ·exact e o1
   ·exact e o2
   ·omega
   ·omega
  refine⟨B,xJ r R (fun k=>k=LB) PB,O2,j'.bo,⟨_,C,r,R,LB,_,[],_,dom nb nxt,pV nb (dom nb nxt),fun _=>Iff.rfl,(tw.made g3 lb pb hLB hPB hne j'.bo (fun k hk=>⟨aF (lB k hk) hs,j.nb k hk⟩)).up lZ zZ,S,aA2 S t.n1 t.n8,Wl.start.up zZ⟩,j'.b,fun k h1 h2=>nO k (lO k h2) h1,j'.kp,j'.al,j'.sz,j'.nb,fun k hk=>⟨fun h1=>nO k (j.al k (Or.inr hk)) h1,(j.gn k hk).2⟩,j'.io,j'.ml⟩
end Go.Proofs.YtecnfgikbmcgoabGreat
