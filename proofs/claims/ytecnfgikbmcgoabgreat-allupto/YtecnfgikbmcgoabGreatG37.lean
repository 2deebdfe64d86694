import Derived.Test.YtecnfgikbmcgoabGreatG34
set_option maxHeartbeats 8000000
set_option maxRecDepth 100000
namespace Go.Proofs.YtecnfgikbmcgoabGreat
open Go.Proofs.Tryz
open Go.RowKit
variable {A B D:Nat->Prop}{BB M PB base:Nat}{C:Rc}{T:Tc}{cs:List (Pc (List Atr))}{w w':World}
def RsD(PB TB CB:Nat)(code:Int)(j:Nat)(x:Value)(_:World):Prop:=
 match j with
 |0=>x=.pointer (some ⟨PB,0,none⟩)
 |1=>x=.pointer (some ⟨PB,0,none⟩)
 |2=>x=.pointer (some ⟨PB,0,none⟩)
 |3=>x=.pointer (some ⟨TB,0,none⟩)
 |4=>x=.int .i64 code
 |5=>x=.pointer (some ⟨PB,0,none⟩)
 |6=>x=.pointer (some ⟨PB,0,none⟩)
 |7=>x=.pointer (some ⟨PB,1,none⟩)
 |8=>x=.pointer (some ⟨CB,0,none⟩)
 |9=>x=.int .i64 code
 |10=>x=.bool true
 |_=>True
theorem RsD.st{TB CB:Nat}{code:Int}(j:Nat)(x:Value)(wa wb:World)(h:RsD PB TB CB code j x wa):RsD PB TB CB code j x wb:=by
 match j,h with
 |0,h=>exact h
 |1,h=>exact h
 |2,h=>exact h
 |3,h=>exact h
 |4,h=>exact h
 |5,h=>exact h
 |6,h=>exact h
 |7,h=>exact h
 |8,h=>exact h
 |9,h=>exact h
 |10,h=>exact h
 |_+11,_=>trivial
def PbP(PB TB CB:Nat)(W:World):Prop:=W.cell? ⟨PB,0,none⟩=some (.pointer (some ⟨TB,0,none⟩))/\W.cell? ⟨PB,1,none⟩=some (.pointer (some ⟨CB,0,none⟩))
def MdP(T:Tc)(r:Nat->Rl)(cs':List (Pc (List Atr)))(s':Ts)(w w1:World):Prop:=∃r1,Tf T r1 w1 cs' s'/\Fr r r1 w w1
def AfP(A:Nat->Prop)(C:Rc)(T:Tc)(r R:Nat->Rl)(cs':List (Pc (List Atr)))(s':Ts)(w w2:World):Prop:=∃r1 R2 w1,Tf T r1 w1 cs' s'/\Fr r r1 w w1/\Rw A C T R2 w2 cs' s'/\Fr R R2 w1 w2
theorem St.step6{r R:Nat->Rl}{LB:Nat}{L:Nat}{s:Ts}(h:St A T C r R LB PB BB B D L M w cs s)(wh a b:Int)(fad:Option Addr)(fn fc:Nat)(ead:Option Addr)(en ec:Nat){Ch:List (Pc (List Atr))->Ts->Prop}(hb:Zc A T C r R w cs s 28 29 Ch):Calls prog 9 #[.pointer (some ⟨PB,0,none⟩),lK wh 6 a b fad fn fc ead en ec] w fun e w'=>Ir A T C r R LB PB BB B D L M Ch w e w':=by
 obtain⟨code,cs',s',hcs',HP,HR⟩:=hb;have HR':Hid (∀W,Rw A C T R W cs s->Calls prog 29 #[.pointer (some ⟨C.TB,0,none⟩)] W fun e w'=>RwP A C T R code cs' s' W e w'):=HR;have HP':Hid (∀W,Gr w W->Calls prog 28 #[.pointer (some ⟨T.TB,0,none⟩)] W fun e w'=>TfP T r code cs' s' W e w'):=HP;have PC0:Hid (∀W,Gr w W->PbP PB T.TB C.TB W):=fun W g=>by have b:=gK g h.pr.pb;refine⟨?_,?_⟩<;>(rw[cZ b];rfl)
 have PC1:Hid (∀r1 W,Fr r r1 w W->PbP PB T.TB C.TB W):=fun r1 W g=>by have b:=(g.keep PB (fZ h.pr.pb) (Or.inl h.pr.np.1)).trans h.pr.pb;refine⟨?_,?_⟩<;>(rw[cZ b];rfl)
 have PC2:Hid (∀r1 R2 W1 W,Fr r r1 w W1->Fr R R2 W1 W->PbP PB T.TB C.TB W):=fun r1 R2 W1 W g1 g2=>by have b1:=(g1.keep PB (fZ h.pr.pb) (Or.inl h.pr.np.1)).trans h.pr.pb;have b:=(g2.keep PB (fZ b1) (Or.inl h.pr.np.2)).trans b1;refine⟨?_,?_⟩<;>(rw[cZ b];rfl)
 have MID:Hid (∀r1 w1,Fr r r1 w w1->Rw A C T R w1 cs s):=fun r1 w1 g=>h.pr.mid g;have BO:Hid (∀w2,AfP A C T r R cs' s' w w2->∃r1 R2,St A T C r1 R2 LB PB BB B D L M w2 cs' s'/\Kq r R r1 R2 B D w w2):=fun w2 ⟨r1,R2,w1,p1,g1,q2,g2⟩=>⟨r1,R2,h.both g1 p1 g2 q2⟩;have HC:=hZ hcs';clear h HP HR hcs';unfold lK;go_enter func9,ntmps9;go_wp2_with fail;have G0:=hZ ((Gr.refl w).alloc (Obj.cells #[.int .i64 wh,.int .i64 6,.int .i64 a,.int .i64 b,.slice fad fn fc,.slice ead en ec] 43));generalize w.alloc (Obj.cells #[.int .i64 wh,.int .i64 6,.int .i64 a,.int .i64 b,.slice fad fn fc,.slice ead en ec] 43)=W0 at *;refine yQ rfl 11 (by rfl) (fun i=>143+i) (fun i _ j _ h=>by omega) (RsD PB T.TB C.TB code) (Ef0 _ 143 11) (fun l W=>PbP PB T.TB C.TB W/\(l 4=false->Gr w W)/\(l 4=true->l 9=false->MdP T r cs' s' w W)/\(l 9=true->AfP A C T r R cs' s' w W)) (fun i wa wb=>(i≠4->i≠9->wb=wa)/\(i=4->MdP T r cs' s' w wb)/\(i=9->AfP A C T r R cs' s' w wb)) (fun a i x hi h=>Ef0.put (by simp) a i x hi h) (fun a h i hi=>by have:=h.sz (by simp);simp at this;omega) ?hw (fun i j x wa wb _ h _=>RsD.st j x wa wb h) ?front ?last (Ef0.start _ 143 11 (by simp)) ⟨PC0 _ G0.drew,fun _=>G0.drew,(fun e=>by cases e),(fun e=>by cases e)⟩;case hw=>
  intro i l wa wb hi hli hcl hwt hW hg;by_cases h4:i=4
  ·subst h4;have l9:l 9=false:=by
    cases e9:l 9 with
    |false=>rfl
    |true=>have:=hcl 9 _ rfl e9 ⟨4,.chain⟩ (by simp) rfl;simp only at this;rw[this] at hli;cases hli
   have hm:=hg.2.1 rfl;obtain⟨r1,m1,m2⟩:=hm;refine⟨PC1 r1 wb m2,(fun e=>by simp[done] at e),fun _ _=>⟨r1,m1,m2⟩,fun e=>?_⟩;simp[done,l9] at e
  ·by_cases h9:i=9
   ·subst h9;have l4:l 4=true:=hwt _ rfl ⟨4,.chain⟩ (by simp) rfl;obtain⟨r1,R2,w1,m1,m2,m3,m4⟩:=hg.2.2 rfl;refine⟨PC2 r1 R2 w1 wb m2 m4,(fun e=>by simp[done,l4] at e),(fun _ e=>by simp[done] at e),fun _=>⟨r1,R2,w1,m1,m2,m3,m4⟩⟩
   ·(have e4:done l i 4=l 4:=by unfold done;rw[if_neg (fun e=>h4 e.symm)]);have e9:done l i 9=l 9:=by unfold done;rw[if_neg (fun e=>h9 e.symm)]
    rw[e4,e9,hg.1 h4 h9];exact hW
 case front=>
  intro i o a' wz l ho hi' hli hcl hwt hE hW hd K hK;have t0:a'.tmps[0]?.getD undef=.pointer (some ⟨PB,0,none⟩):=(evn a' 0).symm.trans (hE.at_ (by simp) (by omega));have z1:=hW.1.1;have z2:=hW.1.2;have HW:=hZ hW;have HCL:=hZ hcl;clear hE hW hcl
  match i,ho,hi',hli,hwt,HCL,hd,hK with
  |0,ho,_,_,_,_,hd,hK=>obtain rfl:=oZ ho;clear hd;unfold Oper.wp;go_simp;exact hK _ _ ⟨fun _ _=>rfl,(fun e=>by cases e),(fun e=>by cases e)⟩ rfl
  |1,ho,_,_,_,_,hd,hK=>obtain rfl:=oZ ho;have e0:a'.eval (.tmp 143)=.pointer (some ⟨PB,0,none⟩):=hd ⟨0,.data⟩ (by simp) rfl;rw[evn] at e0;clear hd;unfold Oper.wp;go_simp;exact hK _ _ ⟨fun _ _=>rfl,(fun e=>by cases e),(fun e=>by cases e)⟩ rfl
  |2,ho,_,_,_,_,hd,hK=>obtain rfl:=oZ ho;have e0:a'.eval (.tmp 144)=.pointer (some ⟨PB,0,none⟩):=hd ⟨1,.data⟩ (by simp) rfl;rw[evn] at e0;clear hd;unfold Oper.wp;go_simp;exact hK _ _ ⟨fun _ _=>rfl,(fun e=>by cases e),(fun e=>by cases e)⟩ rfl
  |3,ho,_,_,_,_,hd,hK=>obtain rfl:=oZ ho;have e0:a'.eval (.tmp 145)=.pointer (some ⟨PB,0,none⟩):=hd ⟨2,.data⟩ (by simp) rfl;rw[evn] at e0;clear hd;unfold Oper.wp;go_simp;exact hK _ _ ⟨fun _ _=>rfl,(fun e=>by cases e),(fun e=>by cases e)⟩ rfl
  |4,ho,_,hli,_,_,hd,hK=>obtain rfl:=oZ ho;have e0:a'.eval (.tmp 146)=.pointer (some ⟨T.TB,0,none⟩):=hd ⟨3,.data⟩ (by simp) rfl;rw[evn] at e0;have GZ:=hZ (HW.2.1 hli);have CC:=hZ (HP' wz GZ.out);clear hd hli z1 z2 HW;unfold Oper.wp;go_simp;refine CC.mono ?_;rintro e w1 ⟨he,r1,q1,q2⟩;subst he;have HM:Hid (MdP T r cs' s' w w1):=⟨r1,q1,(Fr.gr GZ.out).trans q2⟩;clear q1 q2 CC;go_simp;exact hK _ _ ⟨(fun e=>absurd rfl e),fun _=>HM.out,(fun e=>by cases e)⟩ rfl
  |5,ho,_,_,_,_,hd,hK=>obtain rfl:=oZ ho;clear hd;unfold Oper.wp;go_simp;exact hK _ _ ⟨fun _ _=>rfl,(fun e=>by cases e),(fun e=>by cases e)⟩ rfl
  |6,ho,_,_,_,_,hd,hK=>obtain rfl:=oZ ho;have e0:a'.eval (.tmp 148)=.pointer (some ⟨PB,0,none⟩):=hd ⟨5,.data⟩ (by simp) rfl;rw[evn] at e0;clear hd;unfold Oper.wp;go_simp;exact hK _ _ ⟨fun _ _=>rfl,(fun e=>by cases e),(fun e=>by cases e)⟩ rfl
  |7,ho,_,_,_,_,hd,hK=>obtain rfl:=oZ ho;have e0:a'.eval (.tmp 149)=.pointer (some ⟨PB,0,none⟩):=hd ⟨6,.data⟩ (by simp) rfl;rw[evn] at e0;clear hd;unfold Oper.wp;go_simp;exact hK _ _ ⟨fun _ _=>rfl,(fun e=>by cases e),(fun e=>by cases e)⟩ rfl
  |8,ho,_,_,_,_,hd,hK=>obtain rfl:=oZ ho;have e0:a'.eval (.tmp 150)=.pointer (some ⟨PB,1,none⟩):=hd ⟨7,.data⟩ (by simp) rfl;rw[evn] at e0;clear hd;unfold Oper.wp;go_simp;exact hK _ _ ⟨fun _ _=>rfl,(fun e=>by cases e),(fun e=>by cases e)⟩ rfl
  |9,ho,_,hli,hwt,_,hd,hK=>obtain rfl:=oZ ho;have e0:a'.eval (.tmp 151)=.pointer (some ⟨C.TB,0,none⟩):=hd ⟨8,.data⟩ (by simp) rfl;rw[evn] at e0;have l4:l 4=true:=hwt _ rfl ⟨4,.chain⟩ (by simp) rfl;obtain⟨r1,q1,q2⟩:=HW.2.2.1 l4 hli;have CC:=hZ (HR' wz (MID r1 wz q2));have Q:=hZ (And.intro q1 q2);clear hd hli hwt l4 z1 z2 HW q1 q2;unfold Oper.wp;go_simp;refine CC.mono ?_;rintro e w1 ⟨he,R2,q1,q2⟩;subst he;have HM:Hid (AfP A C T r R cs' s' w w1):=⟨r1,R2,wz,Q.1,Q.2,q1,q2⟩;clear q1 q2 CC;go_simp;exact hK _ _ ⟨(fun _ e=>absurd rfl e),(fun e=>by cases e),fun _=>HM.out⟩ rfl
  |10,ho,_,_,_,_,hd,hK=>obtain rfl:=oZ ho;have e0:a'.eval (.tmp 147)=.int .i64 code:=hd ⟨4,.data⟩ (by simp) rfl;rw[evn] at e0;have e1:a'.eval (.tmp 152)=.int .i64 code:=hd ⟨9,.data⟩ (by simp) rfl;rw[evn] at e1;clear hd;unfold Oper.wp;go_simp;exact hK _ _ ⟨fun _ _=>rfl,(fun e=>by cases e),(fun e=>by cases e)⟩ rfl
  |k+11,_,hi',_,_,_,_,_=>exact absurd hi' (by omega)
 case last=>
  intro o a' wy ho hE hW hd K hK;obtain rfl:=oZ ho;have e10:a'.eval (.tmp 153)=.bool true:=hd 10 (by omega);have hdf:=hE.df;obtain⟨l,hW,hl⟩:=hW;obtain⟨r1,R2,FN⟩:=BO wy (hW.2.2.2 (hl 9 (by omega)));have FIN:=hZ FN;obtain⟨z,hz,hts⟩:=hE.ts;have HTS:=hZ (And.intro hz (And.intro hts hdf));clear hz hts hdf hd hE ho hW hl FN;rw[evn] at e10;unfold Oper.wp;go_simp;refine hK _ _ ?_;clear hK;obtain⟨hz,hts,hdf⟩:=HTS.out;obtain⟨y0,y1,y2,y3,y4,y5,y6,y7,y8,y9,y10,rfl⟩:∃y0 y1 y2 y3 y4 y5 y6 y7 y8 y9 y10,z=[y0,y1,y2,y3,y4,y5,y6,y7,y8,y9,y10]:=by
   match z,hz with
   |[y0,y1,y2,y3,y4,y5,y6,y7,y8,y9,y10],_=>exact⟨y0,y1,y2,y3,y4,y5,y6,y7,y8,y9,y10,rfl⟩
  obtain⟨tm,df⟩:=a';simp only at hts hdf;subst hts hdf;clear hz HTS;simp only[bP,bY,bQ,bX,bD,bM];go_wp2_with fail;go_ret;exact⟨rfl,r1,R2,cs',s',HC.out,FIN.out⟩
def vO(A:Nat->Prop)(T:Tc)(C:Rc)(r R:Nat->Rl)(LB PB BB:Nat)(B D:Nat->Prop)(L M:Nat)(w:World)(cs:List (Pc (List Atr)))(s:Ts)(e:Ending)(w':World):Prop:=e=.returned (.bool true)/\∃B',(∀k,k<w.heap.size->B' k->B k)/\St A T C r R LB PB BB B' D (L+4) M w' cs s/\Kx (Oz r R B D) w w'
theorem vO.pre{r R:Nat->Rl}{LB:Nat}{L:Nat}{W:World}{s:Ts}{e:Ending}(g:Gr w W)(h:e=.returned (.bool true)/\∃B',(∀k,k<W.heap.size->B' k->B k)/\St A T C r R LB PB BB B' D (L+4) M w' cs s/\Kx (Oz r R B D) W w'):vO A T C r R LB PB BB B D L M w cs s e w':=by obtain⟨h1,B',h0,h2,h3⟩:=h;exact⟨h1,B',fun k hk=>h0 k (aF hk g.size),h2,(Kx.gr g).trans h3 (fun _ _ e=>e)⟩
theorem St.step8{r R:Nat->Rl}{LB:Nat}{L:Nat}{s:Ts}(h:St A T C r R LB PB BB B D L M w cs s)(wh a b:Int)(fad:Option Addr)(fn fc:Nat)(ead:Option Addr)(en ec:Nat)(hm:Sm T s)(hL:L<=1099511627776):Calls prog 9 #[.pointer (some ⟨PB,0,none⟩),lK wh 8 a b fad fn fc ead en ec] w fun e w'=>vO A T C r R LB PB BB B D L M w cs s e w':=by have LK:Hid (∀W,Gr w W->Calls prog 31 #[.pointer (some ⟨PB,0,none⟩)] W fun e w'=>vO A T C r R LB PB BB B D L M w cs s e w'):=fun W g=>((h.gr g).links hm hL).mono (fun e w' he=>vO.pre g he);clear h hm hL;unfold lK;go_enter func9,ntmps9;go_wp2_with fail;refine(LK _ ((Gr.refl w).alloc _)).mono ?_;intro e w1 hp;have HQ:=hZ hp.2;have he:=hp.1;subst he;clear hp LK;go_wp2_with fail;go_ret;exact⟨rfl,HQ.out⟩
theorem St.step9{r R:Nat->Rl}{LB:Nat}{L:Nat}{s:Ts}(h:St A T C r R LB PB BB B D L M w cs s)(wh a b:Int)(fad:Option Addr)(fn fc:Nat)(ead:Option Addr)(en ec:Nat)(hm:Sm T s)(hs:∀b,b<T.nb->Srt (s.held b))(hadj:∀a b,T.adj a b=true->a<T.nb/\b<T.nb)(hlk:(lks T).length<=14)(hL:L<=1099511627776)(hi:I64 b):Calls prog 9 #[.pointer (some ⟨PB,0,none⟩),lK wh 9 a b fad fn fc ead en ec] w fun e w'=>vO A T C r R LB PB BB B D L M w cs s e w':=by have LK:Hid (∀W,Gr w W->Calls prog 32 #[.pointer (some ⟨PB,0,none⟩),.int .i64 a,.int .i64 b] W fun e w'=>vO A T C r R LB PB BB B D L M w cs s e w'):=fun W g=>((h.gr g).held hm hs hadj hlk hL a b hi).mono (fun e w' he=>vO.pre g he);clear h hm hL hs hadj hlk hi;unfold lK;go_enter func9,ntmps9;go_wp2_with fail;refine(LK _ ((Gr.refl w).alloc _)).mono ?_;intro e w1 hp;have HQ:=hZ hp.2;have he:=hp.1;subst he;clear hp LK;go_wp2_with fail;go_ret;exact⟨rfl,HQ.out⟩
theorem No(wh kind a b:Int)(fad:Option Addr)(fn fc:Nat)(ead:Option Addr)(en ec:Nat)(h1:kind≠1)(h2:kind≠2)(h3:kind≠3)(h4:kind≠4)(h5:kind≠5)(h6:kind≠6)(h7:kind≠7)(h8:kind≠8)(h9:kind≠9):Calls prog 9 #[.pointer (some ⟨PB,0,none⟩),lK wh kind a b fad fn fc ead en ec] w fun e w'=>e=.returned (.bool true)/\Gr w w':=by unfold lK;go_enter func9,ntmps9;go_wp2_with fail;go_ret;exact⟨rfl,(Gr.refl w).alloc _⟩
theorem Jr(wz:World)(a:ByteArray)(k n:Int)(s:ByteArray)(w:World)(h:Gr wz w):Calls prog 33 #[.agg #[.string a,.int .i64 k,.int .i64 n,.string s]] w fun e w'=>e=.returned (.agg #[.string a,.int .i64 k,.int .i64 n,.string s])/\Gr wz w':=(rV a k n s w).mono fun _ _ ⟨h1,h2⟩=>⟨h1,Gr.call h h2⟩
theorem Au(ad ad':Option Addr)(cap cap':Nat)(w:World):Calls prog 60 #[.slice ad 0 cap,.slice ad' 0 cap'] w fun e w'=>e=.returned (.bool true)/\Gr w w':=by
 go_enter func60,ntmps60;go_wp2_with fail;go_loopw [5] (fun kv wr=>kv=.int .i64 0/\wr=w) (fun _ _=>0);case atStart=>exact⟨rfl,rfl⟩
 case round=>obtain⟨rfl,rfl⟩:=hrel;go_wp2_with fail;go_ret;exact⟨rfl,gZ⟩
theorem Av(l:List Atr)(ad ad':Option Addr)(cap cap':Nat)(w:World)(hl:l.length<=maxLen)(h:rA w ad l)(h':rA w ad' l):Calls prog 60 #[.slice ad l.length cap,.slice ad' l.length cap'] w fun e w'=>e=.returned (.bool true)/\Gr w w':=by
 by_cases hn:l=[]
 ·subst hn;exact Au _ _ _ _ _
 rcases h with h|⟨b,off,rfl,hb,hat⟩
 ·exact absurd h hn
 rcases h' with h|⟨b',off',rfl,hb',hat'⟩
 ·exact absurd h hn
 have HAT:=hZ hat;have HAT':=hZ hat';clear hat hat' hn;go_enter func60,ntmps60;go_wp2_with fail;go_loopw [5] (fun kv wr=>∃q:Nat,q<=l.length/\kv=.int .i64 q/\Hid (Gr w wr)) (fun kv _=>l.length-(intOf kv).toNat);case atStart=>exact⟨0,by omega,rfl,gZ⟩
 case round=>
  obtain⟨q,hq,rfl,G⟩:=hrel;by_cases hlt:q<l.length
  ·obtain⟨d1,d2,d3,d4⟩:=HAT q hlt;obtain⟨e1,e2,e3,e4⟩:=HAT' q hlt;have hbw:b<wr.heap.size:=G.lt hb;have hbw':b'<wr.heap.size:=G.lt hb';have ee:∀o,wr.cell? ⟨b,o,none⟩=w.cell? ⟨b,o,none⟩:=fun o=>G.cell (p:=⟨b,o,none⟩) hb;have ee':∀o,wr.cell? ⟨b',o,none⟩=w.cell? ⟨b',o,none⟩:=fun o=>G.cell (p:=⟨b',o,none⟩) hb';rw[<-ee] at d1 d2 d3 d4;rw[<-ee'] at e1 e2 e3 e4;clear ee ee';(have hq1:(q:Int)+1<=9223372036854775807:=by unfold maxLen at hl;omega);(have hw1:wrap64 ((q:Int)+1)=(q:Int)+1:=by unfold wrap64;omega);(have T:Hid (∀w',Gr wr w'->Gr wr w'/\(w'.cell? ⟨b,off+q*4,none⟩=some (.string (aat l q).a)/\w'.cell? ⟨b,off+q*4+1,none⟩=some (.int .i64 (aat l q).k)/\w'.cell? ⟨b,off+q*4+1+1,none⟩=some (.int .i64 (aat l q).n)/\w'.cell? ⟨b,off+q*4+1+1+1,none⟩=some (.string (aat l q).s))/\w'.cell? ⟨b',off'+q*4,none⟩=some (.string (aat l q).a)/\w'.cell? ⟨b',off'+q*4+1,none⟩=some (.int .i64 (aat l q).k)/\w'.cell? ⟨b',off'+q*4+1+1,none⟩=some (.int .i64 (aat l q).n)/\w'.cell? ⟨b',off'+q*4+1+1+1,none⟩=some (.string (aat l q).s)):=by intro w' g';have e:=fun o=>g'.cell (p:=⟨b,o,none⟩) hbw;have e':=fun o=>g'.cell (p:=⟨b',o,none⟩) hbw';rw[e,e,e,e,e',e',e',e'];exact⟨g',⟨d1,d2,d3,d4⟩,e1,e2,e3,e4⟩);go_wp2_with fail;go_region_held3(fun w'=>Gr wr w'/\(w'.cell? ⟨b,off+q*4,none⟩=some (.string (aat l q).a)/\w'.cell? ⟨b,off+q*4+1,none⟩=some (.int .i64 (aat l q).k)/\w'.cell? ⟨b,off+q*4+1+1,none⟩=some (.int .i64 (aat l q).n)/\w'.cell? ⟨b,off+q*4+1+1+1,none⟩=some (.string (aat l q).s))/\w'.cell? ⟨b',off'+q*4,none⟩=some (.string (aat l q).a)/\w'.cell? ⟨b',off'+q*4+1,none⟩=some (.int .i64 (aat l q).k)/\w'.cell? ⟨b',off'+q*4+1+1,none⟩=some (.int .i64 (aat l q).n)/\w'.cell? ⟨b',off'+q*4+1+1+1,none⟩=some (.string (aat l q).s)) (exact T _ (by first|exact gZ|assumption|exact Gr.drew gZ|exact Gr.drew (by assumption))) (first|(go_at_call 33;refine(Jr wr _ _ _ _ _ (by exact(show Gr wr _/\_ by assumption).1)).mono ?_;rintro e w4 ⟨rfl,g4⟩));all_goals
    have G5:=hZ (Gr.call G.out g4);clear g4;go_wp2_with fail;go_roundw
   case rel=>exact⟨q+1,by omega,by go_num,G5⟩
   case measure=>simp[intOf];omega
  ·(have hq8:q=l.length:=by omega);subst hq8;go_wp2_with fail;go_ret;exact⟨rfl,G.out⟩
structure KvS(BB:Nat)(B:Nat->Prop)(L base:Nat)(ad:Option Addr)(cap:Nat)(rows:List Value)(gs:List Nat)(e l k:Bl)(ms:List Nat)(w:World)(q:Nat)(a:Bl)(ys:List Value)(wr:World):Prop where
 bo:BoX BB (fun z=>B z\/z∈gs.take q\/(w.heap.size+1<=z/\z<wr.heap.size)) (L+4*q) wr a e l k ms
 ow:wr.ownsRow base 78 1 (.slice ad rows.length cap) rows.length ys
 tk:ys.take q=rep q [.slice (some ⟨w.heap.size,0,none⟩) 1 1]
 dr:∀i,q<=i->ys[i]?=rows[i]?
 mb:wr.heap[w.heap.size]?=some (.cells #[.string ⟨#[]⟩,.int .i64 0,.int .i64 (-1-(e.ls.length:Int)),.string ⟨#[]⟩] 86 (0,0))
 kx:Kx (fun z=>B z\/Value.ownBlock (.slice ad rows.length cap)=some z\/z∈gs.take q) w wr
structure EvB(B:Nat->Prop)(base:Nat)(ad:Option Addr)(cap:Nat)(rows:List Value)(gs:List Nat)(w:World):Prop where
 n:rows.length<=16
 gl:gs.length=rows.length
 nd:gs.Nodup
 le:base<=w.heap.size
 ow:w.ownsRow base 78 1 (.slice ad rows.length cap) rows.length rows
 ev:∀i,i<rows.length->∃m c xs,vat rows i=.slice (some ⟨gs.getD i 0,0,none⟩) m c/\m<=1099511627776/\w.ownsRow 0 86 4 (.slice (some ⟨gs.getD i 0,0,none⟩) m c) m xs
 ap:∀z,B z->z∉gs/\Value.ownBlock (.slice ad rows.length cap)≠some z
section
variable {BB:Nat}{B:Nat->Prop}{L base:Nat}{ad:Option Addr}{cap:Nat}{rows:List Value}{gs:List Nat}{a e l k:Bl}{ms:List Nat}{w:World}{q:Nat}{ys:List Value}{wr:World}
theorem EvB.gd(h:EvB B base ad cap rows gs w){i:Nat}(hi:i<rows.length):gs[i]?=some (gs.getD i 0):=by have:=h.gl;simp[List.getD_eq_getElem?_getD,List.getElem?_eq_getElem (show i<gs.length by omega)]
theorem EvB.lt(h:EvB B base ad cap rows gs w):∀z∈gs,z<w.heap.size/\Value.ownBlock (.slice ad rows.length cap)≠some z:=fun z hz=>by
 obtain⟨i,hi,rfl⟩:=bG hz;have hi':i<rows.length:=by have:=h.gl;omega
 obtain⟨m,c,xs,e1,_,e2⟩:=h.ev i hi';have hg:gs.getD i 0=gs[i]:=by simp[List.getD_eq_getElem?_getD,List.getElem?_eq_getElem hi]
 rw[hg] at e2;refine⟨kN e2 rfl,fun e3=>?_⟩;exact jJ h.ow e2 (by decide) gs[i] rfl e3
theorem KvS.start(h:BoX BB B L w a e l k ms)(H:EvB B base ad cap rows gs w):KvS BB B L base ad cap rows gs e l k ms w 0 a rows (w.alloc (.cells #[.string ⟨#[]⟩,.int .i64 0,.int .i64 (-1-(e.ls.length:Int)),.string ⟨#[]⟩] 86)):=by
 have g:=(Gr.refl w).alloc (.cells #[.string ⟨#[]⟩,.int .i64 0,.int .i64 (-1-(e.ls.length:Int)),.string ⟨#[]⟩] 86);refine⟨(h.apart (E:=fun _=>False) (Kx.gr g) (fun _ _ e=>e)).wide (fun _=>Or.inl) (fun z hz=>?_) (by omega),gO H.ow g,rfl,fun _ _=>rfl,fY _ _,Kx.gr g⟩;rcases hz with hz|hz|hz
 ·exact aF (h.lt z hz) g.size
 ·simp at hz
 ·exact hz.2
theorem KvS.ev(h:KvS BB B L base ad cap rows gs e l k ms w q a ys wr)(H:EvB B base ad cap rows gs w)(hq:q<rows.length):∃m c xs,ys[q]?=some (.slice (some ⟨gs.getD q 0,0,none⟩) m c)/\m<=1099511627776/\wr.ownsRow 0 86 4 (.slice (some ⟨gs.getD q 0,0,none⟩) m c) m xs/\∀z,(B z\/z∈gs.take q\/(w.heap.size+1<=z/\z<wr.heap.size))->Value.ownBlock (.slice (some ⟨gs.getD q 0,0,none⟩) m c)≠some z:=by
 obtain⟨m,c,xs,e1,e2,e3⟩:=H.ev q hq;have hm:gs.getD q 0∈gs:=dD (H.gd hq);have hnt:gs.getD q 0∉gs.take q:=fun hc=>by
  obtain⟨i,hi,e⟩:=bG hc;have hi':i<q:=by simp at hi;omega
  rw[List.getElem_take] at e;have h2:=H.gd hq;have hgl:=H.gl;rw[aJ (by omega)] at h2;injection h2 with h2;exact bZ.1 H.nd i q (by omega) (by omega) hi' (e.trans h2.symm)
 refine⟨m,c,xs,?_,e2,mJ e3 (fun z hz e4=>h.kx.keep z hz (fun e5=>?_)),fun z hz e4=>?_⟩
 ·rw[h.dr q lZ,nR hq,e1]
 ·have e4':gs.getD q 0=z:=by simpa[Value.ownBlock] using e4
  subst e4';rcases e5 with e5|e5|e5
  ·exact(H.ap _ e5).1 hm
  ·exact(H.lt _ hm).2 e5
  ·exact hnt e5
 ·have e4':gs.getD q 0=z:=by simpa[Value.ownBlock] using e4
  subst e4';rcases hz with e5|e5|e5
  ·exact(H.ap _ e5).1 hm
  ·exact hnt e5
  ·have:=(H.lt _ hm).1;omega
theorem KvS.step(h:KvS BB B L base ad cap rows gs e l k ms w q a ys wr)(H:EvB B base ad cap rows gs w)(hq:q<rows.length){m c:Nat}{w2:World}{a':Bl}(hb:BoX BB (Bw (fun z=>B z\/z∈gs.take q\/(w.heap.size+1<=z/\z<wr.heap.size)) (Value.ownBlock (.slice (some ⟨gs.getD q 0,0,none⟩) m c)) wr w2) (L+4*q+4) w2 a' e l k ms)(hx:Kx (fun z=>(B z\/z∈gs.take q\/(w.heap.size+1<=z/\z<wr.heap.size))\/Value.ownBlock (.slice (some ⟨gs.getD q 0,0,none⟩) m c)=some z) wr w2){g:Nat}(hg:ad=some ⟨g,0,none⟩)(hB0:∀z,B z->z<w.heap.size):w2.ownsRow base 78 1 (.slice ad rows.length cap) rows.length ys/\KvS BB B L base ad cap rows gs e l k ms w (q+1) a' (ys.set q (.slice (some ⟨w.heap.size,0,none⟩) 1 1)) (w2.setCell ⟨g,q,none⟩ (.slice (some ⟨w.heap.size,0,none⟩) 1 1)):=by
 subst hg;have hm:gs.getD q 0∈gs:=dD (H.gd hq);have hgo:Value.ownBlock (.slice (some ⟨g,0,none⟩) rows.length cap)=some g:=rfl;have gw:g<w.heap.size:=kN H.ow hgo;have hs:=h.kx.size;have hs2:=hx.size;have szs:(w2.setCell ⟨g,q,none⟩ (.slice (some ⟨w.heap.size,0,none⟩) 1 1)).heap.size=w2.heap.size:=gY _ _ _;have mlt:=fZ h.mb;have tk1:∀z,z∈gs.take q->z∈gs.take (q+1):=fun z hz=>List.take_subset_take_left gs (by omega) hz;have tkq:gs.getD q 0∈gs.take (q+1):=by rw[List.take_add_one,H.gd hq];simp
 have gno:∀z,(B z\/z∈gs.take (q+1)\/(w.heap.size+1<=z/\z<w2.heap.size))->z≠g:=fun z hz e=>by
  subst e;rcases hz with hz|hz|hz
  ·exact(H.ap _ hz).2 hgo
  ·exact(H.lt _ (List.mem_of_mem_take hz)).2 hgo
  ·omega
 have o2:w2.ownsRow base 78 1 (.slice (some ⟨g,0,none⟩) rows.length cap) rows.length ys:=mJ h.ow (fun z hz e=>hx.keep z hz (fun e5=>by
  have e':g=z:=by simpa[Value.ownBlock] using e
  subst e';rcases e5 with e5|e5
  ·refine gno g ?_ rfl;rcases e5 with e5|e5|e5
   ·exact Or.inl e5
   ·exact Or.inr (Or.inl (tk1 _ e5))
   ·exact Or.inr (Or.inr ⟨e5.1,aF e5.2 hs2⟩)
  ·(have e6:gs.getD q 0=g:=by simpa[Value.ownBlock] using e5);exact(H.lt _ hm).2 (by rw[hgo,e6])))
 have kxs:Kx (fun z=>z=g) w2 (w2.setCell ⟨g,q,none⟩ (.slice (some ⟨w.heap.size,0,none⟩) 1 1)):=⟨rfl,rfl,rfl,Nat.le_of_eq szs.symm,fun z _ hn=>Below.heap_setCell w2 ⟨g,q,none⟩ _ z hn⟩;have hyl:ys.length=rows.length:=by have:=h.ow.1;omega
 have kx3:Kx (fun z=>B z\/Value.ownBlock (.slice (some ⟨g,0,none⟩) rows.length cap)=some z\/z∈gs.take (q+1)) w (w2.setCell ⟨g,q,none⟩ (.slice (some ⟨w.heap.size,0,none⟩) 1 1)):=by
  refine((h.kx.wide (fun z _ hz=>?_)).trans hx (fun z hz e5=>?_)).trans kxs (fun z hz e5=>Or.inr (Or.inl (by rw[e5];rfl)))
  ·exact hz.imp id (fun hz=>hz.imp id (tk1 z))
  ·rcases e5 with(e5|e5|e5)|e5
   ·exact Or.inl e5
   ·exact Or.inr (Or.inr (tk1 z e5))
   ·omega
   ·(have e6:gs.getD q 0=z:=by simpa[Value.ownBlock] using e5);exact Or.inr (Or.inr (e6▸tkq))
 have b3:=(hb.wide (B':=fun z=>B z\/z∈gs.take (q+1)\/(w.heap.size+1<=z/\z<w2.heap.size)) (L':=L+4*(q+1)) (fun z hz=>by
  rcases hz with(hz|hz|hz)|hz|hz
  ·exact Or.inl hz
  ·exact Or.inr (Or.inl (tk1 z hz))
  ·exact Or.inr (Or.inr ⟨hz.1,aF hz.2 hs2⟩)
  ·(have e6:gs.getD q 0=z:=by simpa[Value.ownBlock] using hz);exact Or.inr (Or.inl (e6▸tkq))
  ·exact Or.inr (Or.inr ⟨by omega,hz.2⟩)) (fun z hz=>by
  rcases hz with hz|hz|hz
  ·exact hb.lt z (Or.inl (Or.inl hz))
  ·have:=(H.lt z (List.mem_of_mem_take hz)).1;omega
  ·exact hz.2) (by omega)).apart kxs gno
 refine⟨o2,b3.wide (fun z hz=>by rw[szs];exact hz) (fun z hz=>b3.lt z (by rw[szs] at hz;exact hz)) lZ,(bI o2 q _).1,?_,fun i hi=>?_,?_,kx3⟩
 ·rw[mZ,uK,<-h.tk,take_set _ _ _ (by omega)]
 ·rw[List.getElem?_set_ne (by omega)];exact h.dr i (by omega)
 ·refine(Below.heap_setCell w2 ⟨g,q,none⟩ _ _ (by show w.heap.size≠g;omega)).trans ((hx.keep _ mlt (fun e5=>?_)).trans h.mb);rcases e5 with(e5|e5|e5)|e5
  ·have:=(H.ap _ e5).2;exact absurd (h.bo.lt _ (Or.inl e5)) (by have:=hB0 _ e5;omega)
  ·have:=(H.lt _ (List.mem_of_mem_take e5)).1;omega
  ·omega
  ·(have e6:gs.getD q 0=w.heap.size:=by simpa[Value.ownBlock] using e5);have:=(H.lt _ hm).1;omega
theorem KvS.fin(h:KvS BB B L base ad cap rows gs e l k ms w rows.length a ys wr)(H:EvB B base ad cap rows gs w)(hB0:∀z,B z->z<w.heap.size)(hBB:B BB){vi':Value}{us:List Value}(hbx:w'.heap[BB]?=some (.cells #[.slice none 0 0,a.v,.slice none 0 0,vi',l.v,k.v] 39 (0,0)))(hk:Kept 78 91 (Value.ownBlock (.slice ad rows.length cap)) base wr w' [.slice (some ⟨w.heap.size,0,none⟩) 1 1] rows.length (.slice ad rows.length cap) vi' e.ls us)(hz:∀z,z<wr.heap.size->Value.ownBlock (.slice ad rows.length cap)≠some z->e.v.ownBlock≠some z->z≠BB->w'.heap[z]?=wr.heap[z]?)(hq:∀q,vi'.ownBlock=some q->e.v.ownBlock=some q\/wr.heap.size<=q):Bo BB (fun z=>B z\/Value.ownBlock (.slice ad rows.length cap)=some z\/z∈gs\/(w.heap.size<=z/\z<w'.heap.size)) (L+68) w'/\Kx (fun z=>B z\/Value.ownBlock (.slice ad rows.length cap)=some z\/z∈gs) w w':=by
 have hgs:gs.take rows.length=gs:=aV (Nat.le_of_eq H.gl);have hs:=h.kx.size;have hs2:wr.heap.size<=w'.heap.size:=hk.fr.size;have mlt:=fZ h.mb;have hn:=H.n;have hb:=h.bo;rw[hgs] at hb;have ho:∀z,(B z\/z∈gs\/(w.heap.size+1<=z/\z<wr.heap.size))->Value.ownBlock (.slice ad rows.length cap)≠some z:=fun z hz e5=>by
  rcases hz with hz|hz|hz
  ·exact(H.ap z hz).2 e5
  ·exact(H.lt z hz).2 e5
  ·have:=kN H.ow e5;omega
 have hml:=hb.ml;have e0:e.ls.length/4=ms.length:=by omega
 have gold:∀j,j<ms.length->(ms++[w.heap.size]).getD j 0=ms.getD j 0:=fun j hj=>by rw[aI,aI,cV hj]
 have gnew:(ms++[w.heap.size]).getD ms.length 0=w.heap.size:=by rw[aI,bS lZ];simp
 have hc:=hb.qe.congr (mkf':=Dm (ms++[w.heap.size])) (fun j hj=>by unfold Dm;rw[gold j (by omega)]);have hmk:[Value.slice (some ⟨w.heap.size,0,none⟩) 1 1]=Dm (ms++[w.heap.size]) (e.ls.length/4):=by unfold Dm;rw[e0,gnew]
 rw[hmk] at hk;obtain⟨e',rfl,hel,he'⟩:=hc.kept rfl hk (by decide) (by decide) ho (by omega) hq;have hW:∀z,Bw (fun z=>B z\/z∈gs\/(w.heap.size+1<=z/\z<wr.heap.size)) (Value.ownBlock (.slice ad rows.length cap)) wr w' z->B z\/Value.ownBlock (.slice ad rows.length cap)=some z\/z∈gs\/(w.heap.size<=z/\z<w'.heap.size):=fun z hz=>by
  rcases hz with(hz|hz|hz)|hz|hz
  ·exact Or.inl hz
  ·exact Or.inr (Or.inr (Or.inl hz))
  ·exact Or.inr (Or.inr (Or.inr ⟨by omega,by omega⟩))
  ·exact Or.inr (Or.inl hz)
  ·exact Or.inr (Or.inr (Or.inr ⟨by omega,hz.2⟩))
 have hW1:∀z,(B z\/z∈gs\/(w.heap.size+1<=z/\z<wr.heap.size))->B z\/Value.ownBlock (.slice ad rows.length cap)=some z\/z∈gs\/(w.heap.size<=z/\z<w'.heap.size):=fun z hz=>hW z (Or.inl hz);refine⟨⟨a,e',l,k,ms++[w.heap.size],fun z hz=>?_,Or.inl ?_,hbx,(hb.qa.kv hk.fr (by decide) (by decide) ho).wide hW1 (by omega),he'.wide hW (by omega),(hb.ql.kv hk.fr (by decide) (by decide) ho).wide hW1 (by omega),(hb.qk.kv hk.fr (by decide) (by decide) ho).wide hW1 (by omega),?_,fun j hj=>?_,fun j hj=>?_⟩,?_⟩
 ·rcases hz with hz|hz|hz|hz
  ·have:=hB0 z hz;omega
  ·have:=kN H.ow hz;omega
  ·have:=(H.lt z hz).1;omega
  ·exact hz.2
 ·exact hBB
 ·rw[aG,fN];omega
 ·rcases cG j ms.length with hj'|hj'
  ·rw[gold j hj'];exact hk.fr.kp _ _ _ _ (hb.mb j (by omega)) (by decide) (ho _ (hb.mo j hj'))
  ·(have hj2:j=ms.length:=by omega);subst hj2;rw[gnew];have h1:=hk.fr.kp _ _ _ _ h.mb (by decide) (fun e5=>by have:=kN H.ow e5;omega);rw[h1];show some (Obj.cells #[_,_,_,_] _ _)=some (Obj.cells #[_,_,.int .i64 (-1-(ms.length:Int)*4),_] _ _);rw[show(e.ls.length:Int)=(ms.length:Int)*4 by omega]
 ·rw[aG,fN] at hj;rcases cG j ms.length with hj'|hj'
  ·rw[gold j hj'];exact hW1 _ (hb.mo j hj')
  ·rw[show j=ms.length by omega,gnew];exact Or.inr (Or.inr (Or.inr ⟨lZ,by omega⟩))
 ·have hx:=h.kx;rw[hgs] at hx;refine hx.trans (E1:=fun z=>(B z\/z∈gs\/(w.heap.size+1<=z/\z<wr.heap.size))\/Value.ownBlock (.slice ad rows.length cap)=some z) ⟨hk.fr.be.os,hk.fr.be.tape,hk.fr.be.output,hk.fr.be.size,fun z hz' hn'=>hz z hz' (fun e5=>hn' (Or.inr e5)) (fun e5=>hn' (Or.inl (hb.qe.o z e5))) (fun e5=>hn' (Or.inl (e5▸hb.bb)))⟩ (fun z hz' e5=>?_);rcases e5 with(e5|e5|e5)|e5
  ·exact Or.inl e5
  ·exact Or.inr (Or.inr e5)
  ·omega
  ·exact Or.inr (Or.inl e5)
end
theorem Tryz.infoEvV:(Tryz.prog.info? 78).map (fun i=>(i.zero,i.size,i.bytes))=some (some (.slice none 0 0),1,24):=by kernel_rfl
theorem Tryz.infoSlEV:(Tryz.prog.info? 91).map (fun i=>(i.zero,i.size,i.bytes))=some (some (.slice none 0 0),1,24):=by kernel_rfl
def RV(BB base b1:Nat)(own:Option Nat)(m:Value)(n:Nat)(v vi:Value)(ls:List Value)(j:Nat)(x:Value)(w:World):Prop:=
 match j with
 |0=>x=.pointer (some ⟨BB,0,none⟩)
 |1=>x=.pointer (some ⟨BB,0,none⟩)
 |2=>x=.pointer (some ⟨BB,0,none⟩)
 |3=>x=.pointer (some ⟨BB,3,none⟩)
 |4=>x=vi
 |5=>x=v
 |6=>x=v
 |7=>x=m
 |8=>iZ own vi 78 1 #[m] x w
 |9=>Mk 78 base own b1 [m] (n+1) x w
 |10=>x=v
 |11=>x=m
 |12=>x=m
 |13=>iZ own vi 78 2 #[m,m] x w
 |14=>Mk 78 base own b1 [m] (n+2) x w
 |15=>x=v
 |16=>x=m
 |17=>x=m
 |18=>x=m
 |19=>iZ own vi 78 3 #[m,m,m] x w
 |20=>Mk 78 base own b1 [m] (n+3) x w
 |21=>qZ 78 91 base b1 [m] n v own vi x w
 |22=>sG 78 91 base own b1 [m] n v vi ls x w
 |23=>x=.pointer (some ⟨BB,0,none⟩)
 |24=>x=.pointer (some ⟨BB,3,none⟩)
 |_=>True
theorem RV.st{b1:Nat}{own:Option Nat}{m:Value}{n:Nat}{v vi:Value}{ls:List Value}(i j:Nat)(x:Value)(wa wb:World)(hij:i≠j)(h:RV BB base b1 own m n v vi ls j x wa)(g:Gk 78 91 own base w [m] n v vi ls (i≠22) wa wb):RV BB base b1 own m n v vi ls j x wb:=by
 match j,h,hij with
 |0,h,_=>exact h
 |1,h,_=>exact h
 |2,h,_=>exact h
 |3,h,_=>exact h
 |4,h,_=>exact h
 |5,h,_=>exact h
 |6,h,_=>exact h
 |7,h,_=>exact h
 |8,h,_=>exact iZ.gd h g
 |9,h,_=>exact Mk.gd h g
 |10,h,_=>exact h
 |11,h,_=>exact h
 |12,h,_=>exact h
 |13,h,_=>exact iZ.gd h g
 |14,h,_=>exact Mk.gd h g
 |15,h,_=>exact h
 |16,h,_=>exact h
 |17,h,_=>exact h
 |18,h,_=>exact h
 |19,h,_=>exact iZ.gd h g
 |20,h,_=>exact Mk.gd h g
 |21,h,_=>exact qZ.gd h g
 |22,h,hij=>exact sG.gd h g hij
 |23,h,_=>exact h
 |24,h,_=>exact h
 |_+25,_,_=>trivial
structure EKV(BB:Nat)(m v:Value)(a:Act):Prop where
 sz:56<=a.tmps.size
 df:a.defers=[]
 t0:a.eval (.tmp 0)=.pointer (some ⟨BB,0,none⟩)
 t1:a.eval (.tmp 1)=v
 t4:a.eval (.tmp 4)=m
theorem EKV.put{m v:Value}(a:Act)(i:Nat)(x:Value)(hi:i<25)(h:EKV BB m v a):EKV BB m v (a.put (some (31+i)) x):=by
 refine⟨by simpa[Act.put] using h.sz,h.df,?_,?_,?_⟩<;>rw[iX (by omega)]
 ·exact h.t0
 ·exact h.t1
 ·exact h.t4
theorem BoX.keepV{L:Nat}{ad:Option Addr}{cap:Nat}{rows:List Value}{gs:List Nat}{a e l k:Bl}{ms:List Nat}(h:BoX BB B L w a e l k ms)(hL:L+68<=1099511627776)(H:EvB B base ad cap rows gs w):Calls prog 61 #[.pointer (some ⟨BB,0,none⟩),.slice ad rows.length cap] w fun x w'=>x=.returned (.tuple #[])/\Bo BB (fun z=>B z\/Value.ownBlock (.slice ad rows.length cap)=some z\/z∈gs\/(w.heap.size<=z/\z<w'.heap.size)) (L+68) w'/\Kx (fun z=>B z\/Value.ownBlock (.slice ad rows.length cap)=some z\/z∈gs) w w':=by
 obtain⟨i0,hi',hz0,hz1,hz2⟩:=info_parts Tryz.infoEvV;obtain⟨i1,hi1,hz01,hz11,hz21⟩:=info_parts Tryz.infoSlEV;have c0:w.cell? ⟨BB,3,none⟩=some (.slice e.ad e.ls.length e.cap):=by rw[cZ h.bx];rfl
 have hw1:wrap64 (-1-(e.ls.length:Int))=-1-(e.ls.length:Int):=by have:=h.qe.n;unfold wrap64;go_num
 have hlen:=H.n;have hel:e.ls.length<=L:=h.qe.n;obtain⟨ad',cap',he,had⟩:=gH H.ow;obtain⟨rfl,rfl⟩:ad'=ad/\cap'=cap:=by injection he with h1 _ h2;exact⟨h1.symm,h2.symm⟩
 have HAD:=hZ had;have HH:=hZ H;have HB0:=hZ (And.intro h.lt h.bb);have HS:=hZ (KvS.start h H);clear h H he had;generalize hn:rows.length=n at *;go_enter func61,ntmps61;go_wp2_with fail;clear c0 hw1;have HME:Hid (w.heap.size=w.heap.size):=rfl;go_loopw [5] (fun i wr=>∃(q:Nat)(a':Bl)(ys:List Value),q<=n/\i=.int .i64 q/\Hid (KvS BB B L base ad' cap' rows gs e l k ms w q a' ys wr)) (fun i _=>n-(intOf i).toNat);case atStart=>exact⟨0,a,rows,zZ,rfl,HS⟩
 case round=>
  clear HS;obtain⟨q,a',ys,hq,rfl,S⟩:=hrel;by_cases hlt:q<n
  ·obtain⟨g,rfl⟩:=HAD (by omega);obtain⟨m,c,xs,y1,y2,y3,y4⟩:=S.ev HH.out (by omega);have o0:=S.ow;rw[hn] at o0;(have d0:wr.cell? ⟨g,q,none⟩=some (.slice (some ⟨gs.getD q 0,0,none⟩) m c):=by rw[aH o0 q (by omega)];exact y1);have KA:=hZ (S.bo.keepA (by omega) y2 y3 y4);clear o0 y1 y2 y3 y4 xs;go_wp2_with fail;refine KA.mono ?_;rintro x w2 ⟨rfl,a2,b2,x2⟩;have ST:=hZ (S.step HH.out (by omega) b2 x2 rfl HB0.1);have o2:=ST.1;rw[hn] at o2;obtain⟨r0,rc0⟩:=gQ o2 q (by omega);have rf0:=aK o2 q;have S3:=hZ ST.2;clear KA S b2 x2 ST o2 d0;generalize gs.getD q 0=gq at *;go_wp2_with fail;go_roundw;case rel=>exact⟨q+1,_,_,by omega,by go_num,S3⟩
   case measure=>simp[intOf];omega
  ·(have hqn:q=n:=by omega);subst hqn;subst hn;have hys:ys=rep rows.length [.slice (some ⟨w.heap.size,0,none⟩) 1 1]:=by rw[<-S.tk,aV (by have:=S.ow.1;omega)]
   have hv:=S.ow;rw[hys] at hv;have HBX:=hZ S.bo.bx;have HNB:Hid (Value.ownBlock (.slice ad' rows.length cap')≠some BB):=jF hv HBX.out (by decide);have FIN:Hid (∀(w':World)(vi':Value)(us:List Value),w'.heap[BB]?=some (.cells #[.slice none 0 0,a'.v,.slice none 0 0,vi',l.v,k.v] 39 (0,0)) ->Kept 78 91 (Value.ownBlock (.slice ad' rows.length cap')) base wr w' [.slice (some ⟨w.heap.size,0,none⟩) 1 1] rows.length (.slice ad' rows.length cap') vi' e.ls us ->(∀z,z<wr.heap.size->Value.ownBlock (.slice ad' rows.length cap')≠some z->e.v.ownBlock≠some z->z≠BB->w'.heap[z]?=wr.heap[z]?)->(∀q,vi'.ownBlock=some q->e.v.ownBlock=some q\/wr.heap.size<=q) ->Bo BB (fun z=>B z\/Value.ownBlock (.slice ad' rows.length cap')=some z\/z∈gs\/(w.heap.size<=z/\z<w'.heap.size)) (L+68) w'/\Kx (fun z=>B z\/Value.ownBlock (.slice ad' rows.length cap')=some z\/z∈gs) w w'):=fun w' vi' us h1 h2 h3 h4=>S.fin HH.out HB0.1 HB0.2 h1 h2 h3 h4;have hvi:=S.bo.qe.l.own;(have hel2:e.ls.length<=1099511627776:=by omega);have K0:Hid (KI 78 91 (Value.ownBlock (.slice ad' rows.length cap')) base wr wr [.slice (some ⟨w.heap.size,0,none⟩) 1 1] rows.length (.slice ad' rows.length cap') (.slice e.ad e.ls.length e.cap) e.ls []):=⟨Kv.gr gZ zZ,aA HH.le S.kx.size,fun z _ _ _=>rfl,hv,hvi,by simp⟩;clear hys hv hvi S HH HB0 HAD;generalize hME:w.heap.size=ME at K0 ⊢;generalize hq9:rows.length=q at K0 HNB hlen ⊢;have HQ9:=hZ (And.intro hME hq9);clear hME hq9;obtain⟨w9,hw9⟩:∃w9,w9=wr:=⟨_,rfl⟩;rw[<-hw9] at FIN HBX;(have K1:Hid (KI 78 91 (Value.ownBlock (.slice ad' q cap')) base w9 wr [.slice (some ⟨ME,0,none⟩) 1 1] q (.slice ad' q cap') (.slice e.ad e.ls.length e.cap) e.ls []):=by show KI _ _ _ _ _ _ _ _ _ _ _ _;have h0:=K0.out;rw[<-hw9] at h0 ⊢;exact h0);clear K0 hw9;go_wp2_with fail;refine oO (c:=31) rfl 25 (by rfl) (RV BB base w9.heap.size (Value.ownBlock (.slice ad' q cap')) (.slice (some ⟨ME,0,none⟩) 1 1) q (.slice ad' q cap') (.slice e.ad e.ls.length e.cap) e.ls) (EKV BB (.slice (some ⟨ME,0,none⟩) 1 1) (.slice ad' q cap')) (fun wr=>KI 78 91 (Value.ownBlock (.slice ad' q cap')) base w9 wr [.slice (some ⟨ME,0,none⟩) 1 1] q (.slice ad' q cap') (.slice e.ad e.ls.length e.cap) e.ls []) (fun i wa wb=>Gk 78 91 (Value.ownBlock (.slice ad' q cap')) base w9 [.slice (some ⟨ME,0,none⟩) 1 1] q (.slice ad' q cap') (.slice e.ad e.ls.length e.cap) e.ls (i≠22) wa wb) (fun a i x hi h=>EKV.put a i x hi h) (fun a h=>by have:=h.sz;omega) (fun i wa wb h g=>g.ki h) (fun i j x wa wb hij h g=>RV.st i j x wa wb hij h g) ?front ?last ?e0 K1.drew;case e0=>exact⟨by simp,rfl,rfl,rfl,rfl⟩
   case front=>
    intro i o a wr ho hi hE hW hd K hK
    match i,ho,hi,hd,hK with
    |0,ho,_,hd,hK=>obtain rfl:=oZ ho;have e0:=(evn a 0).symm.trans hE.t0;unfold Oper.wp;go_simp;exact hK _ _ (Gk.gr gZ) rfl
    |1,ho,_,hd,hK=>obtain rfl:=oZ ho;have e0:=(evn a 0).symm.trans hE.t0;unfold Oper.wp;go_simp;exact hK _ _ (Gk.gr gZ) rfl
    |5,ho,_,hd,hK=>obtain rfl:=oZ ho;have e0:=(evn a 1).symm.trans hE.t1;unfold Oper.wp;go_simp;exact hK _ _ (Gk.gr gZ) rfl
    |6,ho,_,hd,hK=>obtain rfl:=oZ ho;have e0:=(evn a 1).symm.trans hE.t1;unfold Oper.wp;go_simp;exact hK _ _ (Gk.gr gZ) rfl
    |10,ho,_,hd,hK=>obtain rfl:=oZ ho;have e0:=(evn a 1).symm.trans hE.t1;unfold Oper.wp;go_simp;exact hK _ _ (Gk.gr gZ) rfl
    |15,ho,_,hd,hK=>obtain rfl:=oZ ho;have e0:=(evn a 1).symm.trans hE.t1;unfold Oper.wp;go_simp;exact hK _ _ (Gk.gr gZ) rfl
    |7,ho,_,hd,hK=>obtain rfl:=oZ ho;have e0:=(evn a 4).symm.trans hE.t4;unfold Oper.wp;go_simp;exact hK _ _ (Gk.gr gZ) rfl
    |11,ho,_,hd,hK=>obtain rfl:=oZ ho;have e0:=(evn a 4).symm.trans hE.t4;unfold Oper.wp;go_simp;exact hK _ _ (Gk.gr gZ) rfl
    |12,ho,_,hd,hK=>obtain rfl:=oZ ho;have e0:=(evn a 4).symm.trans hE.t4;unfold Oper.wp;go_simp;exact hK _ _ (Gk.gr gZ) rfl
    |16,ho,_,hd,hK=>obtain rfl:=oZ ho;have e0:=(evn a 4).symm.trans hE.t4;unfold Oper.wp;go_simp;exact hK _ _ (Gk.gr gZ) rfl
    |17,ho,_,hd,hK=>obtain rfl:=oZ ho;have e0:=(evn a 4).symm.trans hE.t4;unfold Oper.wp;go_simp;exact hK _ _ (Gk.gr gZ) rfl
    |18,ho,_,hd,hK=>obtain rfl:=oZ ho;have e0:=(evn a 4).symm.trans hE.t4;unfold Oper.wp;go_simp;exact hK _ _ (Gk.gr gZ) rfl
    |2,ho,_,hd,hK=>obtain rfl:=oZ ho;have e0:a.eval (.tmp 32)=.pointer (some ⟨BB,0,none⟩):=hd ⟨1,.data⟩ (by simp) rfl;rw[evn] at e0;unfold Oper.wp;go_simp;exact hK _ _ (Gk.gr gZ) rfl
    |3,ho,_,hd,hK=>obtain rfl:=oZ ho;have e0:a.eval (.tmp 33)=.pointer (some ⟨BB,0,none⟩):=hd ⟨2,.data⟩ (by simp) rfl;rw[evn] at e0;unfold Oper.wp;go_simp;exact hK _ _ (Gk.gr gZ) rfl
    |23,ho,_,hd,hK=>obtain rfl:=oZ ho;have e0:a.eval (.tmp 31)=.pointer (some ⟨BB,0,none⟩):=hd ⟨0,.data⟩ (by simp) rfl;rw[evn] at e0;unfold Oper.wp;go_simp;exact hK _ _ (Gk.gr gZ) rfl
    |24,ho,_,hd,hK=>obtain rfl:=oZ ho;have e0:a.eval (.tmp 54)=.pointer (some ⟨BB,0,none⟩):=hd ⟨23,.data⟩ (by simp) rfl;rw[evn] at e0;unfold Oper.wp;go_simp;exact hK _ _ (Gk.gr gZ) rfl
    |4,ho,_,hd,hK=>obtain rfl:=oZ ho;have e0:a.eval (.tmp 34)=.pointer (some ⟨BB,3,none⟩):=hd ⟨3,.data⟩ (by simp) rfl;rw[evn] at e0;(have cx:wr.cell? ⟨BB,3,none⟩=some (.slice e.ad e.ls.length e.cap):=by rw[cZ (KI.box hW HBX.out (by decide) HNB.out)];rfl);unfold Oper.wp;go_simp;exact hK _ _ (Gk.gr gZ) rfl
    |8,ho,_,hd,hK=>obtain rfl:=oZ ho;have e7:a.eval (.tmp 38)=(.slice (some ⟨ME,0,none⟩) 1 1):=hd ⟨7,.data⟩ (by simp) rfl;rw[evn] at e7;unfold Oper.wp;go_simp;exact hK _ _ (Gk.gr (gZ.alloc _)) (iZ.alloc hW rfl)
    |13,ho,_,hd,hK=>obtain rfl:=oZ ho;have e11:a.eval (.tmp 42)=(.slice (some ⟨ME,0,none⟩) 1 1):=hd ⟨11,.data⟩ (by simp) rfl;have e12:a.eval (.tmp 43)=(.slice (some ⟨ME,0,none⟩) 1 1):=hd ⟨12,.data⟩ (by simp) rfl;rw[evn] at e11;rw[evn] at e12;unfold Oper.wp;go_simp;exact hK _ _ (Gk.gr (gZ.alloc _)) (iZ.alloc hW rfl)
    |19,ho,_,hd,hK=>obtain rfl:=oZ ho;have e16:a.eval (.tmp 47)=(.slice (some ⟨ME,0,none⟩) 1 1):=hd ⟨16,.data⟩ (by simp) rfl;have e17:a.eval (.tmp 48)=(.slice (some ⟨ME,0,none⟩) 1 1):=hd ⟨17,.data⟩ (by simp) rfl;have e18:a.eval (.tmp 49)=(.slice (some ⟨ME,0,none⟩) 1 1):=hd ⟨18,.data⟩ (by simp) rfl;rw[evn] at e16;rw[evn] at e17;rw[evn] at e18;unfold Oper.wp;go_simp;exact hK _ _ (Gk.gr (gZ.alloc _)) (iZ.alloc hW rfl)
    |9,ho,_,hd,hK=>obtain rfl:=oZ ho;have e0:a.eval (.tmp 37)=.slice ad' q cap':=hd ⟨6,.data⟩ (by simp) rfl;obtain⟨B,e1,_,_,hb⟩:iZ _ _ _ _ _ (a.eval (.tmp 39)) wr:=hd ⟨8,.data⟩ (by simp) rfl;refine iL _ (.tmp 37) (.tmp 39) 91 rfl base 78 i0 _ 24 [.slice (some ⟨ME,0,none⟩) 1 1] underlying91 hi' hz0 hz1 hz2 rfl eM (.slice ad' q cap') q e0 hW.v0 ⟨B,0,none⟩ 1 1 e1 (World.news_of_block hb) (by simp[Value.oneCell']) (by unfold maxLen;omega) (by omega) hW.le ?_;intro v' x' o' g' r' nb';exact hK _ _ (Gk.app (by decide) rfl hW.v0 o' g' r') ⟨⟨gL o',fun z hz=>(nb' z hz).imp id (fun e=>aA hW.fr.size e)⟩,o'⟩
    |14,ho,_,hd,hK=>obtain rfl:=oZ ho;have e0:a.eval (.tmp 41)=.slice ad' q cap':=hd ⟨10,.data⟩ (by simp) rfl;obtain⟨B,e1,_,_,hb⟩:iZ _ _ _ _ _ (a.eval (.tmp 44)) wr:=hd ⟨13,.data⟩ (by simp) rfl;refine iL _ (.tmp 41) (.tmp 44) 91 rfl base 78 i0 _ 24 [.slice (some ⟨ME,0,none⟩) 1 1] underlying91 hi' hz0 hz1 hz2 rfl eM (.slice ad' q cap') q e0 hW.v0 ⟨B,0,none⟩ 2 2 e1 (World.news_of_block hb) (by simp[Value.oneCell']) (by unfold maxLen;omega) (by omega) hW.le ?_;intro v' x' o' g' r' nb';exact hK _ _ (Gk.app (by decide) rfl hW.v0 o' g' r') ⟨⟨gL o',fun z hz=>(nb' z hz).imp id (fun e=>aA hW.fr.size e)⟩,o'⟩
    |20,ho,_,hd,hK=>obtain rfl:=oZ ho;have e0:a.eval (.tmp 46)=.slice ad' q cap':=hd ⟨15,.data⟩ (by simp) rfl;obtain⟨B,e1,_,_,hb⟩:iZ _ _ _ _ _ (a.eval (.tmp 50)) wr:=hd ⟨19,.data⟩ (by simp) rfl;refine iL _ (.tmp 46) (.tmp 50) 91 rfl base 78 i0 _ 24 [.slice (some ⟨ME,0,none⟩) 1 1] underlying91 hi' hz0 hz1 hz2 rfl eM (.slice ad' q cap') q e0 hW.v0 ⟨B,0,none⟩ 3 3 e1 (World.news_of_block hb) (by simp[Value.oneCell']) (by unfold maxLen;omega) (by omega) hW.le ?_;intro v' x' o' g' r' nb';exact hK _ _ (Gk.app (by decide) rfl hW.v0 o' g' r') ⟨⟨gL o',fun z hz=>(nb' z hz).imp id (fun e=>aA hW.fr.size e)⟩,o'⟩
    |21,ho,_,hd,hK=>obtain rfl:=oZ ho;have e0:a.eval (.tmp 36)=.slice ad' q cap':=hd ⟨5,.data⟩ (by simp) rfl;have m1:Mk _ _ _ _ _ _ (a.eval (.tmp 40)) wr:=hd ⟨9,.data⟩ (by simp) rfl;have m2:Mk _ _ _ _ _ _ (a.eval (.tmp 45)) wr:=hd ⟨14,.data⟩ (by simp) rfl;have m3:Mk _ _ _ _ _ _ (a.eval (.tmp 51)) wr:=hd ⟨20,.data⟩ (by simp) rfl;have g4:=Gk.gr (T:=78) (TS:=91) (own:=Value.ownBlock (.slice ad' q cap')) (base:=base) (w:=w9) (mk:=[.slice (some ⟨ME,0,none⟩) 1 1]) (n:=q) (v:=.slice ad' q cap') (vi:=.slice e.ad e.ls.length e.cap) (ls:=e.ls) (s:=21≠22) ((Gr.refl wr).alloc (.cells #[.slice ad' q cap',a.eval (.tmp 40),a.eval (.tmp 45),a.eval (.tmp 51)] 91));have F:qZ _ _ _ _ _ _ _ _ _ _ _:=⟨_,_,_,iZ.alloc (T':=91) (k:=4) (cs:=#[.slice ad' q cap',a.eval (.tmp 40),a.eval (.tmp 45),a.eval (.tmp 51)]) hW rfl,m1.gd g4,m2.gd g4,m3.gd g4⟩;obtain⟨b1,k1,q1,e1⟩:=m1.1.1;obtain⟨b2,k2,q2,e2⟩:=m2.1.1;obtain⟨b3,k3,q3,e3⟩:=m3.1.1;rw[e1,e2,e3] at g4 F;clear m1 m2 m3;rw[evn] at e0 e1 e2 e3;unfold Oper.wp;go_simp;exact hK _ _ g4 F
    |22,ho,_,hd,hK=>obtain rfl:=oZ ho;have e0:a.eval (.tmp 35)=.slice e.ad e.ls.length e.cap:=hd ⟨4,.data⟩ (by simp) rfl;obtain⟨v1,v2,v3,⟨B,e1,_,_,hb⟩,m1,m2,m3⟩:qZ _ _ _ _ _ _ _ _ _ (a.eval (.tmp 52)) wr:=hd ⟨21,.data⟩ (by simp) rfl;obtain⟨b1,k1,q1,rfl⟩:=m1.1.1;obtain⟨b2,k2,q2,rfl⟩:=m2.1.1;obtain⟨b3,k3,q3,rfl⟩:=m3.1.1;refine lS _ (.tmp 35) (.tmp 52) 35 rfl 0 91 i1 _ 1 24 underlying35 hi1 hz01 hz11 hz21 rfl eM (.slice e.ad e.ls.length e.cap) e.ls.length e.ls e0 hW.vi ⟨B,0,none⟩ 4 4 [.slice ad' q cap',.slice b1 k1 q1,.slice b2 k2 q2,.slice b3 k3 q3] e1 rfl (World.news_of_block hb) (by simp[Value.oneCell']) (by unfold maxLen;omega) (by omega) zZ (by decide) ?_;intro v' x' o' g' r' nb';have g4:=Gk.app4 (base:=base) (T:=78) (own:=Value.ownBlock (.slice ad' q cap')) (w:=w9) (mk:=[.slice (some ⟨ME,0,none⟩) 1 1]) (n:=q) (v:=.slice ad' q cap') (by decide) hW.vi r' g';exact hK _ _ ⟨g4.mks,g4.bl,g4.ki,fun h=>absurd rfl h⟩ ⟨⟨gL o',fun q hq=>nb'.imp (fun e=>e.symm.trans hq) (fun e=>by rw[e] at hq;injection hq with hq;rw[<-hq];exact hW.fr.size)⟩,_,_,_,o',m1.gd g4,m2.gd g4,m3.gd g4⟩
    |k+25,_,hi,_,_=>exact absurd hi (by omega)
   case last=>intro o a wr ho hE hW hd K hK;obtain rfl:=oZ ho;have e0:a.eval (.tmp 55)=.pointer (some ⟨BB,3,none⟩):=hd 24 (by omega);have D:sG _ _ _ _ _ _ _ _ _ _ (a.eval (.tmp 53)) wr:=hd 22 (by omega);obtain⟨b4,k4,q4,e4⟩:=D.1.1;rw[e4] at D;rw[evn] at e0 e4;have hbw:=KI.box hW HBX.out (by decide) HNB.out;(have cx:wr.cell? ⟨BB,3,none⟩=some (.slice e.ad e.ls.length e.cap):=by rw[cZ hbw];rfl);have fx:wr.frozen? ⟨BB,3,none⟩=false:=frozen_of_row _ _ _ _ _ hbw;obtain⟨⟨us,KK⟩,KN⟩:=D.kept (j:=3) rfl hW HBX.out (by decide) HNB.out (by decide);have hdf:=hE.df;unfold Oper.wp;go_simp;refine hK _ _ ?_;refine⟨hdf,.tuple #[],by simp[results,results61,go_sem],rfl,?_⟩;obtain⟨h1,h2⟩:=HQ9.out;subst h1 h2;exact FIN _ _ _ (gI (j:=3) hbw _) KK KN D.1.2
end Go.Proofs.YtecnfgikbmcgoabGreat
