import Derived.Test.YtecnfgikbmcgoabGreatG40
set_option maxHeartbeats 8000000
set_option maxRecDepth 100000
namespace Go.Proofs.YtecnfgikbmcgoabGreat
open Go.Proofs.Tryz
open Go.RowKit
variable {B c f3:Nat}{w:World}{x:Stp}
structure Pk(xs:List Stp)(a4:Option Addr)(BB:Nat)(J:Nat->World->Option Nat->Option Nat->Prop):Prop where
 swap:∀i W v1 v2,J i W v1 v2->J i W v2 v1
 up:∀i j W v1 v2,i<=j->J i W v1 v2->J j W v1 v2
 step:∀i W PB v2,i<xs.length->J i W (some PB) v2->Calls prog 9 #[.pointer (some ⟨PB,0,none⟩),.agg #[.int .i64 (sat xs i).wh,.int .i64 (sat xs i).kind,.int .i64 (sat xs i).a,.int .i64 (sat xs i).b,.slice (sat xs i).fad (sat xs i).f.length (sat xs i).fc,.slice (sat xs i).ead (sat xs i).e.length (sat xs i).ec]] W fun e w'=>e=.returned (.bool true)/\J (i+1) w' (some PB) v2
 still:∀i W PB v2,i<=xs.length->J i W (some PB) v2->∃LB,W.cell? ⟨PB,2,none⟩=some (.pointer (some ⟨LB,0,none⟩))/\Calls prog 10 #[.pointer (some ⟨LB,0,none⟩)] W fun e w'=>e=.returned (.bool true)/\J i w' (some PB) v2
 whole:∀i W v1 v2,i<=xs.length+300->J i W v1 v2->Calls prog 11 #[.pointer (some ⟨BB,0,none⟩)] W fun e w'=>e=.returned (.bool true)/\J i w' v1 v2
 all:∀i W PB v2,i<=xs.length+150->J i W (some PB) v2->Calls prog 12 #[.pointer (some ⟨PB,0,none⟩),.bool true] W fun e w'=>e=.returned (.bool true)/\J (i+101) w' (some PB) v2
 cell:∀i W v1 v2,i<xs.length->J i W v1 v2->∃b off,a4=some ⟨b,off,none⟩/\W.cell? ⟨b,off+i*6,none⟩=some (.int .i64 (sat xs i).wh)/\W.cell? ⟨b,off+i*6+1,none⟩=some (.int .i64 (sat xs i).kind)/\W.cell? ⟨b,off+i*6+1+1,none⟩=some (.int .i64 (sat xs i).a)/\W.cell? ⟨b,off+i*6+1+1+1,none⟩=some (.int .i64 (sat xs i).b)/\W.cell? ⟨b,off+i*6+1+1+1+1,none⟩=some (.slice (sat xs i).fad (sat xs i).f.length (sat xs i).fc)/\W.cell? ⟨b,off+i*6+1+1+1+1+1,none⟩=some (.slice (sat xs i).ead (sat xs i).e.length (sat xs i).ec)
theorem Wj(n:Int)(es:List Ky)(m:Int)(os:List Ky)(xs:List Stp)(a1 a3 a4:Option Addr)(c1 c3 c4:Nat)(w:World)(J:Nat->World->Option Nat->Option Nat->Prop)(hlen:xs.length<=149796)(PK:Hid (Pk xs a4 w.heap.size J))(ST:Hid (J 0 (w.alloc (.cells vK 39)) none none))(O1:Hid (∀W,J 0 W none none->Calls prog 6 #[.int .i64 n,.slice a1 es.length c1,.pointer (some ⟨w.heap.size,0,none⟩)] W fun e w'=>∃v:Option Nat,e=.returned (.tuple #[pv v,.bool true])/\J 0 w' none v))(O2:Hid (∀W v1,J 0 W none v1->Calls prog 6 #[.int .i64 m,.slice a3 os.length c3,.pointer (some ⟨w.heap.size,0,none⟩)] W fun e w'=>∃v:Option Nat,e=.returned (.tuple #[pv v,.bool true])/\J 0 w' v1 v)):Calls prog 5 #[.int .i64 n,.slice a1 es.length c1,.int .i64 m,.slice a3 os.length c3,.slice a4 xs.length c4,.bool true] w fun e w'=>e=.returned (.bool true)/\∃i v1 v2,J i w' v1 v2:=by
 go_enter func5,ntmps5;go_wp2_with fail;refine(O1 _ ST.out).mono ?_;rintro e w1 ⟨v1,rfl,j1⟩;unfold pv;generalize hv1:(v1.map fun PB=>(⟨PB,0,none⟩:Addr))=o1;have J1:=hZ j1;clear O1 ST j1;go_wp2_with fail;refine(O2 _ v1 J1.out).mono ?_;rintro e w2 ⟨v2,rfl,j2⟩;unfold pv;generalize hv2:(v2.map fun PB=>(⟨PB,0,none⟩:Addr))=o2;have J2:=hZ j2;clear O2 J1 j2;go_wp2_with fail;go_loopw [18,19,20,21,22] (fun i t ok s u wr=>∃q:Nat,q<=xs.length/\i=.int .i64 q/\Hid (J q wr v1 v2)) (fun i _ _ _ _ _=>xs.length-(intOf i).toNat);case atStart=>exact⟨0,zZ,rfl,J2⟩
 case round=>
  obtain⟨q,hq,rfl,HJ⟩:=hrel;by_cases hlt:q<xs.length
  ·obtain⟨b,off,e0,d0,d1,d2,d3,d4,d5⟩:=PK.cell q wr v1 v2 hlt HJ.out;subst e0;have STP:=hZ (fun PB v2=>PK.step q wr PB v2 hlt);have UP:=hZ (PK.up _ (q+1) _ _ _ (by omega) HJ.out);generalize sat xs q=x at *;clear J2;cases hpar:(x.wh.tmod 2 != 0) with
   |false=>
    rcases v1 with _|PB
    ·simp only[Option.map_none] at hv1;subst hv1;go_wp2_with fail;exact⟨⟨q+1,by omega,by simp,UP.out⟩,gD _ _ hlt⟩
    ·simp only[dE] at hv1;subst hv1;have CC:=hZ (STP PB v2 HJ.out);clear HJ UP STP;go_wp2_with fail;refine CC.mono ?_;rintro e w3 ⟨rfl,j3⟩;obtain⟨LB,l1,hst⟩:=PK.still (q+1) w3 PB v2 (by omega) j3;have SC:=hZ hst;clear CC j3 hst d0 d1 d2 d3 d4 d5 hpar;go_wp2_with fail;refine SC.mono ?_;rintro e w4 ⟨rfl,j4⟩;have WC:=hZ (PK.whole (q+1) w4 _ _ (by omega) j4);clear SC j4 l1;go_wp2_with fail;refine WC.mono ?_;rintro e w5 ⟨rfl,j5⟩;have J5:=hZ j5;clear WC j5;go_wp2_with fail;go_roundw;case rel=>exact⟨q+1,by omega,by go_num,J5.out⟩
     case measure=>exact gD _ _ hlt
   |true=>
    rcases v2 with _|PB
    ·simp only[Option.map_none] at hv2;subst hv2;go_wp2_with fail;exact⟨⟨q+1,by omega,by simp,UP.out⟩,gD _ _ hlt⟩
    ·simp only[dE] at hv2;subst hv2;have CC:=hZ (STP PB v1 (PK.swap _ _ _ _ HJ.out));clear HJ UP STP;go_wp2_with fail;refine CC.mono ?_;rintro e w3 ⟨rfl,j3⟩;obtain⟨LB,l1,hst⟩:=PK.still (q+1) w3 PB v1 (by omega) j3;have SC:=hZ hst;clear CC j3 hst d0 d1 d2 d3 d4 d5 hpar;go_wp2_with fail;refine SC.mono ?_;rintro e w4 ⟨rfl,j4⟩;have WC:=hZ (PK.whole (q+1) w4 _ _ (by omega) j4);clear SC j4 l1;go_wp2_with fail;refine WC.mono ?_;rintro e w5 ⟨rfl,j5⟩;have J5:=hZ j5;clear WC j5;go_wp2_with fail;go_roundw;case rel=>exact⟨q+1,by omega,by go_num,(PK.swap _ _ _ _ J5.out)⟩
     case measure=>exact gD _ _ hlt
  ·(have hqe:q=xs.length:=by omega);subst hqe;clear J2;go_wp2_with fail;go_loopw [23,24,25,26] (fun i t ok u wr=>∃p:Nat,p<=2/\i=.int .i64 p/\Hid (J (xs.length+101*p) wr v1 v2)) (fun i _ _ _ _=>2-(intOf i).toNat);case atStart=>exact⟨0,by omega,rfl,HJ⟩
   case round=>
    clear HJ;obtain⟨p,hp,rfl,HP⟩:=hrel;have UP:=hZ (PK.up _ (xs.length+101*(p+1)) _ _ _ (by omega) HP.out);obtain rfl|rfl|rfl:p=0\/p=1\/p=2:=by omega
    ·skip;rcases v1 with _|PB
     ·simp only[Option.map_none] at hv1;subst hv1;go_wp2_with fail;exact⟨⟨1,by omega,rfl,UP.out⟩,by simp[intOf]⟩
     ·simp only[dE] at hv1;subst hv1;have AC:=hZ (PK.all _ wr PB v2 (by omega) HP.out);clear HP UP;go_wp2_with fail;refine AC.mono ?_;rintro e w3 ⟨rfl,j3⟩;have WC:=hZ (PK.whole _ w3 _ _ (by omega) j3);clear AC j3;go_wp2_with fail;refine WC.mono ?_;rintro e w4 ⟨rfl,j4⟩;have J4:=hZ j4;clear WC j4;go_wp2_with fail;go_roundw;case rel=>exact⟨1,by omega,by go_num,J4.out⟩
      case measure=>simp[intOf]
    ·skip;rcases v2 with _|PB
     ·simp only[Option.map_none] at hv2;subst hv2;go_wp2_with fail;exact⟨⟨2,by omega,rfl,UP.out⟩,by simp[intOf]⟩
     ·simp only[dE] at hv2;subst hv2;have AC:=hZ (PK.all _ wr PB v1 (by omega) (PK.swap _ _ _ _ HP.out));clear HP UP;go_wp2_with fail;refine AC.mono ?_;rintro e w3 ⟨rfl,j3⟩;have WC:=hZ (PK.whole _ w3 _ _ (by omega) j3);clear AC j3;go_wp2_with fail;refine WC.mono ?_;rintro e w4 ⟨rfl,j4⟩;have J4:=hZ j4;clear WC j4;go_wp2_with fail;go_roundw;case rel=>exact⟨2,by omega,by go_num,(PK.swap _ _ _ _ J4.out)⟩
      case measure=>simp[intOf]
    ·have FIN:=hZ HP.out;clear HP UP;go_wp2_with fail;go_ret;exact⟨rfl,_,_,_,FIN.out⟩
structure Sin(w:World)(x:Stp):Prop where
 f:oW w x.fad x.f
 wf:∀z∈x.f,Wnt.Wf z
 l:x.f.length<=1048576
 e:rA w x.ead x.e
 ewf:∀z∈x.e,Atr.Wf z
 el:x.e.length<=1048576
 wh:I64 x.wh
 k:I64 x.kind
 a:I64 x.a
 b:I64 x.b
theorem Sin.ok(h:Sin w x){Ks:List Ky}(hk:(x.a,x.b)∈Ks):SpOk (fun k=>k<w.heap.size) w Ks x:=⟨⟨h.wf,by have:=h.l;omega,h.f.imp id (fun⟨b,off,e,h1,h2⟩=>⟨b,off,e,h1,h1,h2⟩)⟩,⟨h.ewf,by have:=h.el;omega,h.e.imp id (fun⟨b,off,e,h1,h2⟩=>⟨b,off,e,h1,h1,h2⟩)⟩,h.a,h.b,hk⟩
theorem Sin.gr{w':World}(h:Sin w x)(g:Gr w w'):Sin w' x:=⟨h.f.gr g,h.wf,h.l,h.e.gr g,h.ewf,h.el,h.wh,h.k,h.a,h.b⟩
def kys(xs:List Stp):List Ky:=xs.map fun x=>(x.a,x.b)
theorem uZ(xs:List Stp):(kys xs).length=xs.length:=by simp[kys]
theorem Md{xs:List Stp}(h:x∈xs):(x.a,x.b)∈kys xs:=aC.2 ⟨x,h,rfl⟩
theorem Yu{i len:Nat}(h:i<=149946)(hl:len<=149796):8*(len+1)*i<549755813888:=by have h1:8*(len+1)*i<=8*(149796+1)*149946:=eI (by omega) h;omega
theorem Oe(n:Int)(es:List Ky)(m:Int)(os:List Ky)(xs:List Stp)(a1 a3 a4:Option Addr)(c1 c3 c4:Nat)(ml:Int)(w:World)(l1:es.length<=1048576)(h1:pW w a1 es)(i1:∀e∈es,I64 e.1/\I64 e.2)(l3:os.length<=1048576)(h3:pW w a3 os)(i3:∀e∈os,I64 e.1/\I64 e.2)(l4:xs.length*7<=1048576)(h4:Qa (fun k=>k<w.heap.size) w a4 xs)(hx:∀x∈xs,Sin w x)(hml:Ml ml w):Calls prog 5 #[.int .i64 n,.slice a1 es.length c1,.int .i64 m,.slice a3 os.length c3,.slice a4 xs.length c4,.bool true] w fun e w'=>e=.returned (.bool true)/\Gr w w':=by
 have hlen:xs.length<=149796:=by omega
 have OPN:∀(n:Int)(es:List Ky)(ad:Option Addr)(cap:Nat)(W:World)(v2:Option Nat),es.length<=1048576->pW w ad es->(∀e∈es,I64 e.1/\I64 e.2)->Jx (fun k=>k<w.heap.size) (fun _=>False) w w.heap.size (kys xs) 0 0 W none v2->Calls prog 6 #[.int .i64 n,.slice ad es.length cap,.pointer (some ⟨w.heap.size,0,none⟩)] W fun e w'=>∃v:Option Nat,e=.returned (.tuple #[pv v,.bool true])/\Jx (fun k=>k<w.heap.size) (fun _=>False) w w.heap.size (kys xs) 0 0 w' v v2:=fun n es ad cap W v2 hl he hi hj=>by
  obtain⟨nb,adj,nxt,hT⟩:∃nb adj nxt,jD n es=true->Tsh n es nb adj nxt:=by
   by_cases ht:jD n es=true
   ·obtain⟨nb,adj,nxt,t⟩:=Qs ht;exact⟨nb,adj,nxt,fun _=>t⟩
   ·exact⟨0,fun _ _=>false,fun _ _=>0,fun e=>absurd e ht⟩
  have g:Gr w W:=hj.fin (Gr.refl w) (fun _ h=>h);refine(zD (fun k=>k<w.heap.size) n es ad cap w.heap.size nb adj nxt W hl (he.gr g) hi ⟨ml,g.ml hml⟩ (fun k hk=>g.lt hk) hT).mono ?_;intro e w' ho;obtain⟨v,e1,_,e3⟩:=hj.openP hT ho;exact⟨v,e1,e3⟩
 refine(Wj n es m os xs a1 a3 a4 c1 c3 c4 w (fun i W v1 v2=>Jx (fun k=>k<w.heap.size) (fun _=>False) w w.heap.size (kys xs) (72*i) (8*(xs.length+1)*i) W v1 v2) hlen ⟨?sw,?up,?st,?sl,?wh,?al,?ce⟩ (Jx.start ((Gr.refl w).alloc _) (fY _ _) lZ hml) (fun W hj=>(OPN n es a1 c1 W none l1 h1 i1 hj).mono (fun e w' ⟨v,e1,e2⟩=>⟨v,e1,e2.swap⟩)) (fun W v1 hj=>(OPN m os a3 c3 W v1 l3 h3 i3 hj).mono (fun e w' ⟨v,e1,e2⟩=>⟨v,e1,e2.swap⟩))).mono ?_;case sw=>exact fun i W v1 v2 h=>h.swap
 case up=>exact fun i j W v1 v2 h hj=>hj.up (Nat.mul_le_mul_left _ h) (Nat.mul_le_mul_left _ h)
 case st=>intro i W PB v2 hi hj;refine(hj.step (by omega) (by rw[uZ];omega) (Yu (by omega) hlen) (sat xs i) ((hx _ (Da hi)).ok (Md (Da hi)))).mono ?_;rintro e w' ⟨he,hj'⟩;rw[uZ] at hj';exact⟨he,hj'⟩
 case sl=>exact fun i W PB v2 hi hj=>hj.still (by omega)
 case wh=>exact fun i W v1 v2 hi hj=>hj.whole (by omega)
 case al=>intro i W PB v2 hi hj;refine(hj.all (by omega) (by rw[uZ];omega) (Yu (by omega) hlen)).mono ?_;rintro e w' ⟨he,hj'⟩;exact⟨he,hj'.up (by omega) (Nat.mul_le_mul_left _ (by omega))⟩
 case ce=>intro i W v1 v2 hi hj;obtain⟨b,off,e0,hb,ha⟩:=h4.resolve_left (fun e=>by rw[e] at hi;exact absurd hi (cL _));obtain⟨B,O1,O2,j⟩:=hj;exact⟨b,off,e0,(ha.blk (j.kp b (Or.inl hb))) i hi⟩
 ·rintro e w' ⟨he,i,v1,v2,hj⟩;exact⟨he,hj.fin (Gr.refl w) (fun _ h=>h)⟩
def lF(x:Stp):List Value:=[.int .i64 x.wh,.int .i64 x.kind,.int .i64 x.a,.int .i64 x.b,.slice x.fad x.f.length x.fc,.slice x.ead x.e.length x.ec]
theorem Bu:∀(xs:List Stp)(i j:Nat),i<xs.length->j<6->(xs.flatMap lF)[i*6+j]?=(lF (sat xs i))[j]?
 |[],i,j,h,_=>absurd h (cL _)
 |x::xs,0,j,_,hj=>by rw[cQ,cV (by simp[lF];omega)];simp[sat]
 |x::xs,i+1,j,h,hj=>by
  have ih:=Bu xs i j (by simpa using h) hj;rw[cQ,bS (by simp[lF];omega)];have e:(i+1)*6+j-(lF x).length=i*6+j:=by simp[lF];omega
  rw[e,ih];simp[sat]
theorem wY.of{base b:Nat}{xs:List Stp}(h:w.ownsRow base 43 6 (.slice (some ⟨b,0,none⟩) xs.length c) xs.length (xs.flatMap lF)):wY w b 0 xs:=fun i hi=>by
 have e:∀j,j<6->w.cell? ⟨b,i*6+j,none⟩=(lF (sat xs i))[j]?:=fun j hj=>by have:=aH h (i*6+j) (show i*6+j<xs.length*6 by omega);rw[this,Bu xs i j hi hj]
 simp only[cE];exact⟨e 0 (by decide),e 1 (by decide),e 2 (by decide),e 3 (by decide),e 4 (by decide),e 5 (by decide)⟩
def wM(n:Int):Wnt:=⟨⟨#[115,105,122,101]⟩,6,1,n,⟨#[]⟩⟩
theorem Ct(n:Int)(h1:-9223372036854775808<=n)(h2:n<=9223372036854775807):∀x∈[wM n],Wnt.Wf x:=by intro x hx;simp only[aM] at hx;subst hx;exact⟨by simp[wM,maxLen,ByteArray.size],by simp[wM,maxLen,ByteArray.size],h1,h2⟩
theorem Io{n:Int}(h:w.heap[B]?=some (.cells #[.string ⟨#[115,105,122,101]⟩,.int .i64 6,.int .i64 1,.int .i64 n,.string ⟨#[]⟩] 47 (0,0))):iD w B 0 [wM n]:=fun i hi=>by
 obtain rfl:i=0:=by simp at hi;exact hi
 simp only[eJ,cE];refine⟨?_,?_,?_,?_,?_⟩<;>(rw[cZ h];rfl)
def pC(k a b:Int):Stp:=⟨0,k,a,b,[],none,0,[],none,0⟩
def Ga:Array Value:=#[.string ⟨#[115,105,122,101]⟩,.int .i64 1,.int .i64 9,.string ⟨#[]⟩]
theorem Sn:∀x∈[Fz],Atr.Wf x:=by intro x hx;simp only[aM] at hx;subst hx;exact⟨by simp[Fz,maxLen,ByteArray.size],by simp[Fz,maxLen,ByteArray.size],by decide,by decide⟩
theorem Ws(h:w.heap[B]?=some (.cells Ga 68 (0,0))):iP w B 0 [Fz]:=fun i hi=>by
 obtain rfl:i=0:=by simp at hi;exact hi
 simp only[eJ,cE];refine⟨?_,?_,?_,?_⟩<;>(rw[cZ h];rfl)
theorem Sl(w:World):Calls prog 8 #[] w fun e w'=>∃B,e=.returned (.slice (some ⟨B,0,none⟩) 1 1)/\Gr w w'/\w.heap.size<=B/\w'.heap[B]?=some (.cells Ga 68 (0,0)):=by go_enter func8,ntmps8;go_wp2_with fail;go_ret;exact⟨_,rfl,gZ.alloc _,lZ,fY _ _⟩
def Js(f1 f2:Nat):List Stp:=[pC 1 10 0,pC 1 20 2,⟨0,2,20,1,[wM 3],some ⟨f1,0,none⟩,1,[],none,0⟩,pC 8 0 0,pC 5 2 1,pC 8 0 0,pC 6 0 0,⟨0,2,20,2,[wM 5],some ⟨f2,0,none⟩,1,[],none,0⟩,pC 8 0 0,pC 3 20 1,pC 8 0 0,pC 6 0 0,pC 9 0 1]
def kn3(f3:Nat):List Stp:=[⟨0,4,10,0,[],none,0,[Fz],some ⟨f3,0,none⟩,1⟩,pC 6 0 0,pC 7 20 0]
def kno(f1 f2 f3:Nat):List Stp:=Js f1 f2++kn3 f3
theorem Me(f1 f2 f3:Nat):(kno f1 f2 f3).length=16:=rfl
theorem Zw{A:Nat->Prop}{f1 f2:Nat}(h1:w.heap[f1]?=some (.cells #[.string ⟨#[115,105,122,101]⟩,.int .i64 6,.int .i64 1,.int .i64 3,.string ⟨#[]⟩] 47 (0,0)))(h2:w.heap[f2]?=some (.cells #[.string ⟨#[115,105,122,101]⟩,.int .i64 6,.int .i64 1,.int .i64 5,.string ⟨#[]⟩] 47 (0,0)))(h3:w.heap[f3]?=some (.cells Ga 68 (0,0)))(a1:A f1)(a2:A f2)(a3:A f3):∀x∈kno f1 f2 f3,SpOk A w (kys (kno f1 f2 f3)) x:=by
 intro x hx;have hk:=Md hx;have nf:FiC A w none []:=⟨(fun _ h=>by cases h),zZ,Or.inl rfl⟩;have ne:EvC A w none []:=⟨(fun _ h=>by cases h),zZ,Or.inl rfl⟩;have pl:∀k a b:Int,I64 a->I64 b->(a,b)∈kys (kno f1 f2 f3)->SpOk A w (kys (kno f1 f2 f3)) (pC k a b):=fun k a b ha hb hm=>⟨nf,ne,ha,hb,hm⟩;have j20:I64 20:=⟨by decide,by decide⟩;have j10:I64 10:=⟨by decide,by decide⟩;have j1:I64 1:=⟨by decide,by decide⟩;have j2:I64 2:=⟨by decide,by decide⟩;have j0:I64 0:=⟨by decide,by decide⟩;simp only[kno,Js,kn3,bD,bM,aN,dR,or_false] at hx;rcases hx with rfl|rfl|rfl|rfl|rfl|rfl|rfl|rfl|rfl|rfl|rfl|rfl|rfl|rfl|rfl|rfl;all_goals first
  |exact pl _ _ _ ⟨by decide,by decide⟩ ⟨by decide,by decide⟩ hk
  |exact⟨⟨Ct 3 (by decide) (by decide),by simp,Or.inr ⟨f1,0,rfl,a1,fZ h1,Io h1⟩⟩,ne,j20,j1,hk⟩
  |exact⟨⟨Ct 5 (by decide) (by decide),by simp,Or.inr ⟨f2,0,rfl,a2,fZ h2,Io h2⟩⟩,ne,j20,j2,hk⟩
  |exact⟨nf,⟨Sn,by simp,Or.inr ⟨f3,0,rfl,a3,fZ h3,Ws h3⟩⟩,j10,j0,hk⟩
def Br(n:Int):Array Value:=#[.string ⟨#[115,105,122,101]⟩,.int .i64 6,.int .i64 1,.int .i64 n,.string ⟨#[]⟩]
structure Kk(f1 f2 f3 SB PB:Nat)(w:World)(J:Nat->World->Prop):Prop where
 step:∀i W,i<16->J i W->Calls prog 9 #[.pointer (some ⟨PB,0,none⟩),.agg #[.int .i64 (sat (kno f1 f2 f3) i).wh,.int .i64 (sat (kno f1 f2 f3) i).kind,.int .i64 (sat (kno f1 f2 f3) i).a,.int .i64 (sat (kno f1 f2 f3) i).b,.slice (sat (kno f1 f2 f3) i).fad (sat (kno f1 f2 f3) i).f.length (sat (kno f1 f2 f3) i).fc,.slice (sat (kno f1 f2 f3) i).ead (sat (kno f1 f2 f3) i).e.length (sat (kno f1 f2 f3) i).ec]] W fun e w'=>e=.returned (.bool true)/\J (i+1) w'
 cell:∀i W,i<16->J i W->W.cell? ⟨SB,i*6,none⟩=some (.int .i64 (sat (kno f1 f2 f3) i).wh)/\W.cell? ⟨SB,i*6+1,none⟩=some (.int .i64 (sat (kno f1 f2 f3) i).kind)/\W.cell? ⟨SB,i*6+1+1,none⟩=some (.int .i64 (sat (kno f1 f2 f3) i).a)/\W.cell? ⟨SB,i*6+1+1+1,none⟩=some (.int .i64 (sat (kno f1 f2 f3) i).b)/\W.cell? ⟨SB,i*6+1+1+1+1,none⟩=some (.slice (sat (kno f1 f2 f3) i).fad (sat (kno f1 f2 f3) i).f.length (sat (kno f1 f2 f3) i).fc)/\W.cell? ⟨SB,i*6+1+1+1+1+1,none⟩=some (.slice (sat (kno f1 f2 f3) i).ead (sat (kno f1 f2 f3) i).e.length (sat (kno f1 f2 f3) i).ec)
 fin:∀i W,J i W->Gr w W
def Bb(w3:World)(f1:Nat):World:=(w3.alloc (.cells (Br 5) 47)).alloc (.cells ((Js f1 w3.heap.size).flatMap lF).toArray 43)
theorem Te(w3:World)(f1:Nat):(Bb w3 f1).ownsRow (w3.heap.size+1) 43 6 (.slice (some ⟨w3.heap.size+1,0,none⟩) 13 13) 13 ((Js f1 w3.heap.size).flatMap lF):=by
 have b3:(Bb w3 f1).heap[w3.heap.size+1]?=some (.cells ((Js f1 w3.heap.size).flatMap lF).toArray 43 (0,0)):=by have:=fY (w3.alloc (.cells (Br 5) 47)) (.cells ((Js f1 w3.heap.size).flatMap lF).toArray 43);rw[dL] at this;exact this
 exact⟨rfl,Or.inr ⟨w3.heap.size+1,13,_,rfl,lZ,b3,lZ,by simp[maxLen],rfl,rfl⟩⟩
theorem Ow{w1 w2 w3 w5 w6:World}{o:Obj}{BB PB SB:Nat}(hj:Jx (fun k=>k<w.heap.size) (fun _=>False) w BB (kys (kno w2.heap.size w3.heap.size f3)) 0 0 w1 (some PB) none)(g2:Gr w1 w2)(g3:Gr (w2.alloc (.cells (Br 3) 47)) w3)(g5:Gr (Bb w3 w2.heap.size) w5)(l3:(Bb w3 w2.heap.size).heap.size<=f3)(hb3:w5.heap[f3]?=some (.cells Ga 68 (0,0)))(g6:(w5.alloc o).grownBy w6 (some (w3.heap.size+1)))(own:w6.ownsRow (w3.heap.size+1) 43 6 (.slice (some ⟨SB,0,none⟩) 16 c) 16 ((kno w2.heap.size w3.heap.size f3).flatMap lF)):∃J:Nat->World->Prop,J 0 w6/\Kk w2.heap.size w3.heap.size f3 SB PB w J:=by
 have s2:=g2.size;have s3:=g3.size;rw[dL] at s3;have s4:(Bb w3 w2.heap.size).heap.size=w3.heap.size+2:=by unfold Bb;rw[dL,dL]
 have s5:=g5.size;have g4:Gr w3 (Bb w3 w2.heap.size):=((Gr.refl w3).alloc _).alloc _;have gt:Gr w3 w6:=Below.grown (Gr.alloc (Gr.call g4 g5) _) g6 (by simp;omega) (fun q hq=>by injection hq with hq;omega);have g:Gr w1 w6:=Gr.call (Gr.call (Gr.alloc g2 _) g3) gt;have kp:∀k,k<w5.heap.size->k≠w3.heap.size+1->w6.heap[k]?=w5.heap[k]?:=fun k hk hn=>by rw[g6.block k (by simp;omega) (fun e=>hn (oZ e)),gF _ _ hk]
 have b1:w6.heap[w2.heap.size]?=some (.cells (Br 3) 47 (0,0)):=gK gt (gK g3 (fY _ _));have b2:w6.heap[w3.heap.size]?=some (.cells (Br 5) 47 (0,0)):=by rw[kp _ (by omega) (by omega),g5.block _ (by omega)];unfold Bb;rw[gF _ _ (by rw[dL];omega)];exact fY _ _
 have l5:=fZ hb3;have b3:w6.heap[f3]?=some (.cells Ga 68 (0,0)):=by rw[kp _ l5 (by omega)];exact hb3
 have sp:wY w6 SB 0 (kno w2.heap.size w3.heap.size f3):=wY.of own;have lo:=iC own SB rfl;have lt:=qS own;have gw:=hj.fin (Gr.refl w) (fun _ h=>h);have jr:=hj.rebase (A':=fun k=>k<w.heap.size\/k=w2.heap.size\/k=w3.heap.size\/k=f3) (S:=fun k=>k=SB) g (fun k hk=>Or.inl hk) (fun k hk=>by
  rcases hk with hk|rfl|rfl|rfl
  ·exact Or.inl hk
  ·exact Or.inr ⟨s2,fZ b1,_,_,_,Or.inl rfl,b1⟩
  ·exact Or.inr ⟨by omega,fZ b2,_,_,_,Or.inl rfl,b2⟩
  ·exact Or.inr ⟨by omega,fZ b3,_,_,_,Or.inr rfl,b3⟩) (fun k hk=>by
  have hk:k=SB:=hk;subst hk;exact⟨by omega,lt⟩)
 have ok:=Zw (A:=fun k=>k<w.heap.size\/k=w2.heap.size\/k=w3.heap.size\/k=f3) b1 b2 b3 (Or.inr (Or.inl rfl)) (Or.inr (Or.inr (Or.inl rfl))) (Or.inr (Or.inr (Or.inr rfl)));refine⟨fun i W=>i<=16/\Jx (fun k=>k<w.heap.size\/k=w2.heap.size\/k=w3.heap.size\/k=f3) (fun k=>k=SB) w6 BB (kys (kno w2.heap.size w3.heap.size f3)) (72*i) (8*(16+1)*i) W (some PB) none,⟨zZ,jr⟩,⟨?_,?_,?_⟩⟩
 ·rintro i W hi ⟨_,hj⟩;have o1:=ok _ (Da (xs:=kno w2.heap.size w3.heap.size f3) (i:=i) hi);refine(hj.step (by omega) (by rw[uZ,Me];decide) (by omega) (sat (kno w2.heap.size w3.heap.size f3) i) o1).mono ?_;rintro e w' ⟨he,hj'⟩;rw[uZ,Me] at hj';exact⟨he,by omega,hj'⟩
 ·rintro i W hi ⟨_,B,O1,O2,j⟩;have:=(sp.blk (j.kp SB (Or.inr rfl))) i hi;simp only[cE] at this;exact this
 ·rintro i W ⟨_,hj⟩;exact hj.fin (Gr.call gw g) (fun k hk=>Or.inl hk)
theorem Td{ml:Int}(w:World)(hml:Ml ml w):Calls prog 6 #[.int .i64 3,.slice (some ⟨w.heap.size,0,none⟩) 2 2,.pointer (some ⟨w.heap.size+1,0,none⟩)] ((w.alloc (.cells #[.int .i64 0,.int .i64 1,.int .i64 2,.int .i64 1] 30)).alloc (.cells #[.slice none 0 0,.slice none 0 0,.slice none 0 0,.slice none 0 0,.slice none 0 0,.slice none 0 0] 39)) fun e w'=>∃PB,e=.returned (.tuple #[.pointer (some ⟨PB,0,none⟩),.bool true])/\Jx (fun k=>k<w.heap.size) (fun _=>False) w (w.heap.size+1) (kys (kno 0 0 0)) 0 0 w' (some PB) none:=by
 have ht:jD 3 [(0,1),(2,1)]=true:=by decide
 obtain⟨nb,adj,nxt,t⟩:=Qs ht;have g:Gr w ((w.alloc (.cells #[.int .i64 0,.int .i64 1,.int .i64 2,.int .i64 1] 30)).alloc (.cells vK 39)):=((Gr.refl w).alloc _).alloc _;have be:((w.alloc (.cells #[.int .i64 0,.int .i64 1,.int .i64 2,.int .i64 1] 30)).alloc (.cells vK 39)).heap[w.heap.size]?=some (.cells #[.int .i64 0,.int .i64 1,.int .i64 2,.int .i64 1] 30 (0,0)):=by rw[gF _ _ (by rw[dL];omega)];exact fY _ _
 have bb:((w.alloc (.cells #[.int .i64 0,.int .i64 1,.int .i64 2,.int .i64 1] 30)).alloc (.cells vK 39)).heap[w.heap.size+1]?=some (.cells vK 39 (0,0)):=by have:=fY (w.alloc (.cells #[.int .i64 0,.int .i64 1,.int .i64 2,.int .i64 1] 30)) (.cells vK 39);rw[dL] at this;exact this
 have hj:Jx (fun k=>k<w.heap.size) (fun _=>False) w (w.heap.size+1) (kys (kno 0 0 0)) 0 0 _ none none:=Jx.start g bb (cD _) hml;have he:pW ((w.alloc (.cells #[.int .i64 0,.int .i64 1,.int .i64 2,.int .i64 1] 30)).alloc (.cells vK 39)) (some ⟨w.heap.size,0,none⟩) [(0,1),(2,1)]:=Or.inr ⟨w.heap.size,0,rfl,fZ be,fun i hi=>by
  obtain rfl|rfl:i=0\/i=1:=by simp at hi;omega
  ·refine⟨?_,?_⟩<;>(rw[cZ be];rfl)
  ·refine⟨?_,?_⟩<;>(rw[cZ be];rfl)⟩
 refine(zD (fun k=>k<w.heap.size) 3 [(0,1),(2,1)] (some ⟨w.heap.size,0,none⟩) 2 (w.heap.size+1) nb adj nxt _ (by decide) he (fun e h=>?_) ⟨ml,g.ml hml⟩ (fun k hk=>g.lt hk) (fun _=>t)).mono ?_
 ·simp only[aN,dR,or_false] at h;rcases h with rfl|rfl<;>exact⟨⟨by decide,by decide⟩,⟨by decide,by decide⟩⟩
 ·intro e w' ho;obtain⟨v,e1,e2,e3⟩:=hj.openP (fun _=>t) ho;cases v with
  |none=>exact absurd rfl (e2 ht)
  |some PB=>exact⟨PB,e1,e3⟩
theorem Tryz.infoStep:(Tryz.prog.info? 43).map (fun i=>(i.zero,i.size,i.bytes))=some (some (.agg #[.int .i64 0,.int .i64 0,.int .i64 0,.int .i64 0,.slice none 0 0,.slice none 0 0]),6,80):=by kernel_rfl
theorem Ov(ml:Int)(w:World)(hml:Ml ml w):Calls prog 4 #[.bool true] w fun e w'=>e=.returned (.bool true)/\Gr w w':=by
 have OP:=hZ (Td w hml);obtain⟨i0,hi,hz0,hz1,hz2⟩:=info_parts Tryz.infoStep;clear hml;go_enter func4,ntmps4;go_wp2_with fail;refine OP.mono ?_;rintro e w1 ⟨PB,rfl,j1⟩;have J1:=hZ j1;clear OP j1;go_wp2_with fail;refine(Cs 3 w1).mono ?_;rintro e w2 ⟨rfl,g2⟩;have G2:=hZ g2;clear g2;go_wp2_with fail;refine(Cs 5 _).mono ?_;rintro e w3 ⟨rfl,g3⟩;have G3:Hid (Gr (w2.alloc (.cells (Br 3) 47)) w3):=g3;clear g3;go_wp2_with fail;refine(Sl _).mono ?_;rintro e w5 ⟨B9,rfl,g5,l5,b5⟩;have G5:Hid (Gr (Bb w3 w2.heap.size) w5):=g5;have L5:Hid ((Bb w3 w2.heap.size).heap.size<=B9):=l5;have B5:=hZ b5;have O5:Hid (w5.ownsRow (w3.heap.size+1) 43 6 (.slice (some ⟨w3.heap.size+1,0,none⟩) 13 13) 13 ((Js w2.heap.size w3.heap.size).flatMap lF)):=gO (Te w3 w2.heap.size) g5;have S5:Hid (w3.heap.size+2<=w5.heap.size):=by have:=g5.size;simp only[dL] at this;exact this
 clear g5 l5 b5;go_wp2_with(at_builtin;refine wpList_append_own _ rfl _ _ 23 rfl (w3.heap.size+1) 43 i0 _ 6 80 underlying23 hi hz0 hz1 hz2 rfl (by decide) _ _ _ rfl (O5.alloc _) ⟨w5.heap.size,0,none⟩ 3 3 ((kn3 B9).flatMap lF) rfl rfl (World.news_of_block (jN rfl)) ?k2 ?k3 ?k4 ?k5 ?_);case k2=>
  have hall:((kn3 B9).flatMap lF).all (fun u=>u.oneCell')=true:=rfl;exact fun u hu=>cJ.1 hall u hu
 case k3=>unfold maxLen;omega
 case k4=>omega
 case k5=>have:=S5.out;simp;omega
 intro v6 w6 o6 g6 _;obtain⟨va,vc,rfl,hva⟩:=gH o6;obtain⟨SB,rfl⟩:=hva (by decide);obtain⟨J,j0,kk⟩:=Ow (w:=w) (f3:=B9) J1.out G2.out G3.out G5.out L5.out B5.out g6 o6;have J0:=hZ j0;have KK:=hZ kk;clear j0 kk J1 G2 G3 G5 L5 B5 O5 S5 o6 g6 hva hi hz0 hz1 hz2;go_wp2_with fail;go_loopw [4,6] (fun ok i wr=>∃q:Nat,q<=16/\ok=.bool true/\i=.int .i64 q/\Hid (J q wr)) (fun _ i _=>16-(intOf i).toNat);case atStart=>exact⟨0,zZ,rfl,rfl,J0⟩
 case round=>
  clear J0;obtain⟨q,hq,rfl,rfl,HJ⟩:=hrel;by_cases hlt:q<16
  ·obtain⟨d0,d1,d2,d3,d4,d5⟩:=KK.cell q wr hlt HJ.out;have CC:=hZ (KK.step q wr hlt HJ.out);generalize sat (kno w2.heap.size w3.heap.size B9) q=x at *;clear HJ;go_wp2_with fail;refine CC.mono ?_;rintro e w4 ⟨rfl,j4⟩;have J4:=hZ j4;clear CC j4 d0 d1 d2 d3 d4 d5;go_wp2_with fail;go_roundw;case rel=>exact⟨q+1,by omega,rfl,by go_num,J4⟩
   case measure=>exact gD _ _ hlt
  ·(have hqe:q=16:=by omega);subst hqe;have FIN:=hZ (KK.fin 16 wr HJ.out);clear KK HJ;go_wp2_with fail;go_ret;exact⟨rfl,FIN.out⟩
theorem Yp(n:Int)(es:List Ky)(m:Int)(os:List Ky)(xs:List Stp)(a1 a3 a4:Option Addr)(c1 c3 c4:Nat)(ml:Int)(w:World)(l1:es.length<=1048576)(h1:pW w a1 es)(i1:∀e∈es,I64 e.1/\I64 e.2)(l3:os.length<=1048576)(h3:pW w a3 os)(i3:∀e∈os,I64 e.1/\I64 e.2)(l4:xs.length*7<=1048576)(h4:Qa (fun k=>k<w.heap.size) w a4 xs)(hx:∀x∈xs,Sin w x)(hml:Ml ml w):Calls prog 3 #[.int .i64 n,.slice a1 es.length c1,.int .i64 m,.slice a3 os.length c3,.slice a4 xs.length c4] w fun e w'=>e=.returned (.bool true)/\Gr w w':=by have KN:=hZ (Ov ml w hml);have PL:Hid (∀W,Gr w W->Calls prog 5 #[.int .i64 n,.slice a1 es.length c1,.int .i64 m,.slice a3 os.length c3,.slice a4 xs.length c4,.bool true] W fun e w'=>e=.returned (.bool true)/\Gr W w'):=fun W g=>Oe n es m os xs a1 a3 a4 c1 c3 c4 ml W l1 (h1.gr g) i1 l3 (h3.gr g) i3 l4 (h4.gr g) (fun x hx'=>(hx x hx').gr g) (g.ml hml);clear h1 i1 h3 i3 h4 hx hml;go_enter func3,ntmps3;go_wp2_with fail;refine KN.mono ?_;rintro e w1 ⟨rfl,g1⟩;have G1:=hZ g1;clear g1 KN;go_wp2_with fail;refine(PL w1 G1.out).mono ?_;rintro e w2 ⟨rfl,g2⟩;have G2:=hZ (Gr.call G1.out g2);clear g2 PL;go_wp2_with fail;go_ret;exact⟨rfl,G2.out⟩
open Go.ChangeShapes Go.WideShapes Go.ChangeAt Go.RowKit
theorem Kt(os:Os)(started:os.Started)(H:Type)(enc:TypeId×Value->H)(F:Stop.Interp):ReturnsInHanded {} Tryz.checked os 3 .any ((Rows.OpenSpec.upto Rows.allSpec).pre6 enc prog Tryz.f3 Rows.allUptoRow.domain false) (((Rows.OpenSpec.upto Rows.allSpec).at F).post enc prog Tryz.f3 false true false false):=by
 refine tF (C:=Tryz.checked) (s:=Rows.OpenSpec.upto Rows.allSpec) (k:=Rows.uptoSmall) rfl Tryz.own started (by kernel_rfl) func3 (OpenSpec.witness (enc:=enc) (C:=Tryz.checked) (s:=Rows.OpenSpec.upto Rows.allSpec) (k:=Rows.uptoSmall) rfl false ⟨#[],#[.int .i64 0,.slice none 0 0,.int .i64 0,.slice none 0 0,.slice none 0 0],[]⟩ 8 (by kernel_rfl) (by kernel_rfl) (by kernel_rfl) (x:=([.lit (.int .i64 0),.nil,.lit (.int .i64 0),.nil,.nil],[],[])) (by kernel_rfl) rfl (by kernel_rfl)) ?_;intro W base args ds gs before hval0 hW hk hsh;have hval:∀(j:Nat) t v,Tryz.f3.params[j]?=some t->args[j]?=some v->Value.okWide prog W .any base t v:=hval0;have hW':=hW;obtain⟨p,q,hA0,hV,rfl,hfz,hnd⟩:=hW;have hA:DataW.TrodAll enc prog W 0 (fun _=>true) true Tryz.f3.params.toList args.toList ds p:=hA0;rw[Tryz.params3] at hA hval;obtain⟨v0,vs0,d0,ds0,p0,q0,hargs,rfl,rfl,h0,r0⟩:=trodAll_cons hA;obtain⟨v1,vs1,d1,ds1,p1,q1,rfl,rfl,rfl,h1,r1⟩:=trodAll_cons r0;obtain⟨v2,vs2,d2,ds2,p2,q2,rfl,rfl,rfl,h2,r2⟩:=trodAll_cons r1;obtain⟨v3,vs3,d3,ds3,p3,q3,rfl,rfl,rfl,h3,r3⟩:=trodAll_cons r2;obtain⟨v4,vs4,d4,ds4,p4,q4,rfl,rfl,rfl,h4,r4⟩:=trodAll_cons r3;obtain⟨rfl,rfl,rfl⟩:=trodAll_nil r4;obtain rfl:args=#[v0,v1,v2,v3,v4]:=by cases args;simp_all
 obtain⟨rfl,rfl⟩:=trodVars_none hV;obtain⟨a1,len1,cap1,rfl⟩:=okWide_slice underlying22 (hval 1 22 v1 rfl rfl);obtain⟨a3,aA5,cap3,rfl⟩:=okWide_slice underlying22 (hval 3 22 v3 rfl rfl);obtain⟨a4,len4,cap4,rfl⟩:=okWide_slice underlying23 (hval 4 23 v4 rfl rfl);have lt1:∀x∈p1,x.block<W.heap.size:=by obtain⟨m,hm⟩:=h1;exact DataW.trod_lt m _ _ _ hm
 have lt3:∀x∈p3,x.block<W.heap.size:=by obtain⟨m,hm⟩:=h3;exact DataW.trod_lt m _ _ _ hm
 have lt4:∀x∈p4,x.block<W.heap.size:=by obtain⟨m,hm⟩:=h4;exact DataW.trod_lt m _ _ _ hm
 have hb:Rows.uptoBulkAll ([d0,d1,d2,d3,d4]++[])<=1048576:=of_decide_eq_true hk;have b1:=tC (H:=H) (d:=d1) (l:=[d0,d1,d2,d3,d4]++[]) (by simp);have b3:=tC (H:=H) (d:=d3) (l:=[d0,d1,d2,d3,d4]++[]) (by simp);have b4:=tC (H:=H) (d:=d4) (l:=[d0,d1,d2,d3,d4]++[]) (by simp);generalize Rows.uptoBulkAll ([d0,d1,d2,d3,d4]++[])=BB at *;clear hk;obtain⟨n,rfl,rfl,rfl,wn⟩:=open_int underlying3 (hval 0 3 v0 rfl rfl) h0;obtain⟨m',rfl,rfl,rfl,wm⟩:=open_int underlying3 (hval 2 3 v2 rfl rfl) h2;obtain⟨es,e1,i1,w1,l1⟩:=Hi h1;obtain⟨os',e3,i3,w3,l3⟩:=Hi h3;obtain⟨xs,e4,i4,w4,l4⟩:=Qz h4;subst e1 e3 e4;obtain⟨m,hM⟩:=aAV hsh;clear hA0 hval0;refine(Yp n es m' os' xs a1 a3 a4 cap1 cap3 cap4 m W (by omega) i1 w1 (by omega) i3 w3 (by omega) i4 (fun x hx=>(by obtain⟨⟨q1,q2,q3,q4,q5,q6,q7,q8⟩,q9,q10⟩:=w4 x hx;exact⟨q1,q2,by omega,q3,q4,by omega,q5,q6,q7,q8⟩)) hM).mono fun e W' ⟨he,bel⟩=>?_;subst he;exact⟨_,rfl,_,_,_,[],_,[],hW',trodAll_mk1 (shut_bool underlying4 _),(trodAll_cons_mk (shut_int underlying3 wn) (trodAll_cons_mk (Below.trod Tryz.laidOut (by kernel_rfl) (of_decide_eq_true (by kernel_rfl)) h1 bel lt1) (trodAll_cons_mk (shut_int underlying3 wm) (trodAll_cons_mk (Below.trod Tryz.laidOut (by kernel_rfl) (of_decide_eq_true (by kernel_rfl)) h3 bel lt3) (trodAll_cons_mk (Below.trod Tryz.laidOut (by kernel_rfl) (of_decide_eq_true (by kernel_rfl)) h4 bel lt4) trodAll_mk0))))),rfl,Below.frame bel _,fun h=>by cases h⟩
theorem all_holds:Rows.AllUptoSaid:=OpenClaim.holds_of_cond 3 Tryz.f3 rfl rfl rfl rfl rfl rfl rfl ⟨rfl,rfl,rfl,rfl,rfl⟩ rfl rfl rfl rfl rfl (by kernel_rfl) func3 (by kernel_rfl) (of_decide_eq_true (by kernel_rfl)) (by unfold Func.isWrapper;first|(rw[if_pos (by decide +kernel)];kernel_rfl)|(rw[if_neg (by decide +kernel)];exact⟨rfl,rfl⟩)) (fun os started H enc _ F=>Kt os started H enc F)
#print axioms all_holds
end Go.Proofs.YtecnfgikbmcgoabGreat
