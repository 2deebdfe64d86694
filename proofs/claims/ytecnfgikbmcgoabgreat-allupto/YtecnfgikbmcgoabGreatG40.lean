import Derived.Test.YtecnfgikbmcgoabGreatG39
set_option maxHeartbeats 8000000
set_option maxRecDepth 100000
namespace Go.Proofs.YtecnfgikbmcgoabGreat
open Go.Proofs.Tryz
open Go.RowKit
variable {A A' B D G:Nat->Prop}{BB IB M Mw PB fuel i:Nat}{H:Type}{Ks X es:List Ky}{cs:List Value}{w w' w0 w2:World}{xo:Option Addr}
theorem zR:∀(X:List Ky)(i:Nat)(a b:Int),((hG X).set (i*2) (.int .i64 a)).set (i*2+1) (.int .i64 b)=hG (X.set i (a,b))
 |[],i,a,b=>by simp[hG]
 |x::X,0,a,b=>by simp[hG,rE]
 |x::X,i+1,a,b=>by have ih:=zR X i a b;simp only[hG] at ih;simp only[hG,cQ,fE];rw[<-ih,show(i+1)*2=i*2+1+1 by omega,show i*2+1+1+1=(i*2+1)+1+1 by omega];simp[rE]
theorem pW.gr{ad:Option Addr}(h:pW w ad es)(g:Gr w w'):pW w' ad es:=h.imp id (fun⟨b,off,e,h1,h2⟩=>⟨b,off,e,g.lt h1,fun i hi=>by rw[(gP g).1 b _ h1,(gP g).1 b _ h1];exact h2 i hi⟩)
def Ib(IB:Nat)(X:List Ky)(w:World):Prop:=∃cur,w.heap[IB]?=some (.cells cur 30 (0,0))/\cur.toList=hG X
section
variable {IB:Nat}{X:List Ky}{w w':World}
theorem Ib.cell(h:Ib IB X w)(hi:i<X.length):w.cell? ⟨IB,i*2,none⟩=some (.int .i64 (eat X i).1)/\w.cell? ⟨IB,i*2+1,none⟩=some (.int .i64 (eat X i).2):=by obtain⟨cur,h1,h2⟩:=h;obtain⟨c0,c1⟩:=qH X i hi;rw[cZ h1,cZ h1,<-cA,<-cA,h2];exact⟨c0,c1⟩
theorem Ib.fz(h:Ib IB X w)(j:Nat):w.frozen? ⟨IB,j,none⟩=false:=by obtain⟨cur,h1,_⟩:=h;exact vF h1 j
theorem Ib.gr(h:Ib IB X w)(g:Gr w w'):Ib IB X w':=by obtain⟨cur,h1,h2⟩:=h;exact⟨cur,gK g h1,h2⟩
theorem Ib.lt(h:Ib IB X w):IB<w.heap.size:=by obtain⟨cur,h1,h2⟩:=h;exact fZ h1
theorem Ib.set(h:Ib IB X w)(i:Nat)(a b:Int):Ib IB (X.set i (a,b)) ((w.setCell ⟨IB,i*2,none⟩ (.int .i64 a)).setCell ⟨IB,i*2+1,none⟩ (.int .i64 b)):=by obtain⟨cur,h1,h2⟩:=h;refine⟨_,heap_setCell_same _ _ _ _ _ _ (heap_setCell_same _ _ _ _ _ _ h1),?_⟩;rw[cR,cR,h2,zR]
end
def uP(es:List Ky):List Ky:=es++List.replicate 8 (77,77)
theorem sZ(h:i<es.length):eat (uP es) i=eat es i:=by simp[eat,uP,List.getD_eq_getElem?_getD,List.getElem?_append_left h]
theorem tW(h:¬i<es.length)(h2:i<es.length+8):eat (uP es) i=(77,77):=by simp only[eat,uP,aI];rw[bS (by omega),fS,if_pos (by omega)];rfl
theorem vG(h:i<X.length)(x:Ky)(j:Nat):eat (X.set i x) j=if j=i then x else eat X j:=by
 simp only[eat,aI,dV];by_cases e:i=j
 ·subst e;simp[h]
 ·rw[if_neg e,if_neg (fun c=>e c.symm)]
def dS:Stp:=⟨0,0,0,0,[],none,0,[],none,0⟩
def sat(xs:List Stp)(i:Nat):Stp:=xs.getD i dS
theorem Da{xs:List Stp}(h:i<xs.length):sat xs i∈xs:=by unfold sat;exact jZ h _
def wY(w:World)(b off:Nat)(xs:List Stp):Prop:=∀i,i<xs.length->w.cell? ⟨b,off+i*6,none⟩=some (.int .i64 (sat xs i).wh)/\w.cell? ⟨b,off+i*6+1,none⟩=some (.int .i64 (sat xs i).kind)/\w.cell? ⟨b,off+i*6+1+1,none⟩=some (.int .i64 (sat xs i).a)/\w.cell? ⟨b,off+i*6+1+1+1,none⟩=some (.int .i64 (sat xs i).b)/\w.cell? ⟨b,off+i*6+1+1+1+1,none⟩=some (.slice (sat xs i).fad (sat xs i).f.length (sat xs i).fc)/\w.cell? ⟨b,off+i*6+1+1+1+1+1,none⟩=some (.slice (sat xs i).ead (sat xs i).e.length (sat xs i).ec)
theorem wY.blk{b off:Nat}{xs:List Stp}(h:wY w b off xs)(hb:w'.heap[b]?=w.heap[b]?):wY w' b off xs:=fun i hi=>by
 have e:∀o,w'.cell? ⟨b,o,none⟩=w.cell? ⟨b,o,none⟩:=fun o=>by unfold World.cell?;simp only[hb]
 rw[e,e,e,e,e,e];exact h i hi
def Qa(G:Nat->Prop)(w:World)(ad:Option Addr)(xs:List Stp):Prop:=xs=[]\/∃b off,ad=some ⟨b,off,none⟩/\G b/\wY w b off xs
theorem Qa.gr{ad:Option Addr}{xs:List Stp}(h:Qa (fun k=>k<w.heap.size) w ad xs)(g:Gr w w'):Qa (fun k=>k<w'.heap.size) w' ad xs:=h.imp id (fun⟨b,off,e,h1,h2⟩=>⟨b,off,e,g.lt h1,h2.blk (g.block b h1)⟩)
def vK:Array Value:=#[.slice none 0 0,.slice none 0 0,.slice none 0 0,.slice none 0 0,.slice none 0 0,.slice none 0 0]
theorem Bq.nil{L:Nat}{T TS:TypeId}{sz:Nat}{mkf:Nat->List Value}:Bq B L w T TS sz mkf ⟨none,0,[]⟩:=⟨⟨bF _ _ _ _,fun i hi=>absurd hi (cL _)⟩,rfl,zZ,by simp[Bl.v,Value.ownBlock],fun i hi=>absurd hi (cL _)⟩
theorem Bo.start(h:w.heap[BB]?=some (.cells vK 39 (0,0)))(L:Nat):Bo BB (fun k=>k=BB) L w:=⟨⟨none,0,[]⟩,⟨none,0,[]⟩,⟨none,0,[]⟩,⟨none,0,[]⟩,[],fun _ hk=>hk▸fZ h,rfl,h,Bq.nil,Bq.nil,Bq.nil,Bq.nil,rfl,fun _ hj=>absurd hj (cL _),fun _ hj=>absurd hj (cL _)⟩
theorem Jx.start{W:World}{m:Int}(g:Gr w W)(hb:W.heap[BB]?=some (.cells vK 39 (0,0)))(hBB:w.heap.size<=BB)(hml:Ml m w):Jx (fun k=>k<w.heap.size) (fun _=>False) w BB Ks 0 0 W none none:=by have hp:=hml.pos;refine⟨fun k=>k=BB,fun _=>False,fun _=>False,Bo.start hb 0,fun _ e=>e,fun _ e=>e,fun _ e=>e.elim,fun k hk=>g.block k (hk.elim id False.elim),fun k hk=>g.lt (hk.elim id False.elim),g.size,fun k hk=>?_,fun _ e=>e.elim,⟨g.os,g.tape,g.output⟩,m,g.ml hml⟩;have hk:k=BB:=hk;subst hk;exact⟨by omega,by omega⟩
theorem Jx.fin{L:Nat}{v1 v2:Option Nat}(h:Jx A G w0 BB Ks L Mw w v1 v2){wa:World}(g:Gr wa w0)(hA:∀k,k<wa.heap.size->A k):Gr wa w:=by obtain⟨B,O1,O2,j⟩:=h;exact⟨j.io.1.trans g.os,j.io.2.1.trans g.tape,j.io.2.2.trans g.output,aA g.size j.sz,fun k hk=>(j.kp k (Or.inl (hA k hk))).trans (g.block k hk)⟩
open Go.ChangeShapes Go.WideShapes Go.ChangeAt Go.RowKit
theorem Tryz.cellsW:Tryz.prog.cellsOf 47=5:=by kernel_rfl
theorem Tryz.cellsA:Tryz.prog.cellsOf 68=4:=by kernel_rfl
theorem Tryz.cellsV:Tryz.prog.cellsOf 45=3:=by kernel_rfl
theorem Tryz.cellsP:Tryz.prog.cellsOf 30=2:=by kernel_rfl
theorem Tryz.cellsSt:Tryz.prog.cellsOf 43=6:=by kernel_rfl
theorem aA5(h:cs.length=3):∃a b c,cs=[a,b,c]:=by rcases cs with _|⟨a,_|⟨b,_|⟨c,_|_⟩⟩⟩<;>simp at h;exact⟨a,b,c,rfl⟩
theorem aBP(h:cs.length=2):∃a b,cs=[a,b]:=by rcases cs with _|⟨a,_|⟨b,_|_⟩⟩<;>simp at h;exact⟨a,b,rfl⟩
theorem aA4(h:cs.length=4):∃a b c d,cs=[a,b,c,d]:=by rcases cs with _|⟨a,_|⟨b,_|⟨c,_|⟨d,_|_⟩⟩⟩⟩<;>simp at h;exact⟨a,b,c,d,rfl⟩
theorem aA3(h:cs.length=5):∃a b c d e,cs=[a,b,c,d,e]:=by rcases cs with _|⟨a,_|⟨b,_|⟨c,_|⟨d,_|⟨e,_|_⟩⟩⟩⟩⟩<;>simp at h;exact⟨a,b,c,d,e,rfl⟩
theorem aBO(h:cs.length=6):∃a b c d e f,cs=[a,b,c,d,e,f]:=by rcases cs with _|⟨a,_|⟨b,_|⟨c,_|⟨d,_|⟨e,_|⟨f,_|_⟩⟩⟩⟩⟩⟩<;>simp at h;exact⟨a,b,c,d,e,f,rfl⟩
instance:Inhabited Wnt:=⟨dW⟩
instance:Inhabited Atr:=⟨dA⟩
instance:Inhabited Stp:=⟨dS⟩
instance:Inhabited Ky:=⟨(0,0)⟩
theorem Lg{enc:TypeId×Value->H}{W:World}{x:DataW H×List MemPlace}(h:DataW.trod enc prog W 0 (fun _=>true) true fuel 45 cs=some x):∃(k n:Int)(s:ByteArray),cs=[.int .i64 k,.int .i64 n,.string s]/\(Lit.int .i64 k).wf=true/\(Lit.int .i64 n).wf=true/\s.size<=maxLen:=by obtain⟨xs,m,_,_,hl,hxl,hf⟩:=fU underlying45 h;rw[Tryz.cellsV] at hl;obtain⟨c0,c1,c2,rfl⟩:=aA5 hl;have e3:xs.length=3:=hxl;have h0:=hf 0 _ rfl;have h1:=hf 1 _ rfl;have h2:=hf 2 _ rfl;rw[aJ (by omega)] at h0 h1 h2;have h0':DataW.trod enc prog W 0 (fun _=>true) true m 3 [c0]=some xs[0]:=h0;have h1':DataW.trod enc prog W 0 (fun _=>true) true m 3 [c1]=some xs[1]:=h1;have h2':DataW.trod enc prog W 0 (fun _=>true) true m 9 [c2]=some xs[2]:=h2;obtain⟨k,hk,_,wk⟩:=eA underlying3 h0';obtain⟨n,hn,_,wn⟩:=eA underlying3 h1';obtain⟨s,hs,_,ws⟩:=DataW.trod_string underlying9 h2';simp only[dJ,and_true] at hk hn hs;exact⟨k,n,s,by rw[hk,hn,hs],wk,wn,ws⟩
theorem Qn{enc:TypeId×Value->H}{W:World}{x:DataW H×List MemPlace}(h:DataW.trod enc prog W 0 (fun _=>true) true fuel 47 cs=some x):∃v:Wnt,cs=[.string v.a,.int .i64 v.y,.int .i64 v.k,.int .i64 v.n,.string v.s]/\v.Wf:=by obtain⟨xs,m,_,_,hl,hxl,hf⟩:=fU underlying47 h;rw[Tryz.cellsW] at hl;obtain⟨c0,c1,c2,c3,c4,rfl⟩:=aA3 hl;have e3:xs.length=3:=hxl;have h0:=hf 0 _ rfl;have h1:=hf 1 _ rfl;have h2:=hf 2 _ rfl;rw[aJ (by omega)] at h0 h1 h2;have h0':DataW.trod enc prog W 0 (fun _=>true) true m 9 [c0]=some xs[0]:=h0;have h1':DataW.trod enc prog W 0 (fun _=>true) true m 3 [c1]=some xs[1]:=h1;have h2':DataW.trod enc prog W 0 (fun _=>true) true m 45 [c2,c3,c4]=some xs[2]:=h2;obtain⟨a,ha,_,wa⟩:=DataW.trod_string underlying9 h0';obtain⟨y,hy,_,wy⟩:=eA underlying3 h1';obtain⟨k,n,s,hv,wk,wn,ws⟩:=Lg h2';simp only[dJ,and_true] at ha hy hv;obtain⟨rfl,rfl,rfl⟩:=hv;exact⟨⟨a,y,k,n,s⟩,by rw[ha,hy],⟨wa,ws,(bounds_i64 wn).1,(bounds_i64 wn).2⟩⟩
theorem Fa{enc:TypeId×Value->H}{W:World}{a:Option Addr}{len cap:Nat}{d:DataW H}{p:List MemPlace}(h:DataW.Trod enc prog W 0 (fun _=>true) true 40 (.slice a len cap) d p):∃f:List Wnt,f.length=len/\oW W a f/\(∀x∈f,x.Wf)/\(len=0\/∃es sp,d=.slice es sp/\es.length=len):=by
 obtain⟨fuel,hf⟩:=h;rcases Go.Deep.open_slice underlying40 hf with⟨hcs,_⟩|⟨x,l,c,m,n,D,Pl,hcs,_,hl,hm,hmm,hd,lA⟩
 ·simp[Value.cells] at hcs;obtain⟨rfl,rfl,rfl⟩:=hcs;exact⟨[],rfl,Or.inl rfl,by simp,Or.inl rfl⟩
 ·simp[Value.cells] at hcs;obtain⟨rfl,rfl,rfl⟩:=hcs;have hmm':m=cap:=by simpa using hmm
  subst hmm';rw[Tryz.cellsW] at lA;obtain⟨F,hF⟩:=Go.Deep.choose_lt (α:=Wnt) (n:=len) (p:=fun i v=>W.cells? 0 (x.add (i*5)) 5=some [.string v.a,.int .i64 v.y,.int .i64 v.k,.int .i64 v.n,.string v.s]/\v.Wf) (fun i hi=>by obtain⟨cs',h1,h2⟩:=lA i (by omega);obtain⟨v,rfl,hw⟩:=Qn h2;exact⟨v,h1,hw⟩);have hlen:((List.range len).map F).length=len:=by simp
  refine⟨(List.range len).map F,hlen,?_,fun z hz=>?_,Or.inr ⟨_,_,(cP _ _ _ _▸hd).1,by simp⟩⟩
  ·by_cases h0:len=0
   ·exact Or.inl (dB.1 (by rw[hlen,h0]))
   ·obtain⟨b,off,spot⟩:=x;have cc:=fun(i:Nat)(hi:i<len)=>(fV (hF i hi).1).2.2;have hc:=cc 0 (by omega) 0 (by omega);simp only[eJ,eE] at hc;(have hspot:spot=none:=by simpa[Addr.add] using fX hc);subst hspot;refine Or.inr ⟨b,off,rfl,?_,fun i hi=>?_⟩
    ·have:=dC _ _ hc;simpa[Addr.add] using this
    ·rw[hlen] at hi;(have e:wat ((List.range len).map F) i=F i:=by simp[wat,List.getD_eq_getElem?_getD,hi]);rw[e];have k0:=cc i hi 0 (by omega);have k1:=cc i hi 1 (by omega);have k2:=cc i hi 2 (by omega);have k3:=cc i hi 3 (by omega);have k4:=cc i hi 4 (by omega);rw[nK,nK] at k0 k1 k2 k3 k4;exact⟨k0,k1,k2,k3,k4⟩
  ·obtain⟨i,hi,rfl⟩:=aC.1 hz;exact(hF i (by simpa using hi)).2
theorem Nj{enc:TypeId×Value->H}{W:World}{x:DataW H×List MemPlace}(h:DataW.trod enc prog W 0 (fun _=>true) true fuel 40 cs=some x):∃(a:Option Addr)(cap:Nat)(f:List Wnt),cs=[.slice a f.length cap]/\oW W a f/\(∀z∈f,z.Wf)/\f.length<=Rows.uptoBulk x.1:=by
 rcases Go.Deep.open_slice underlying40 h with⟨hcs,_⟩|⟨y,l,c,m,n,D,Pl,hcs,_⟩
 ·obtain⟨f,h1,h2,h3,h4⟩:=Fa (enc:=enc) (W:=W) (a:=none) (len:=0) (cap:=0) (d:=x.1) (p:=x.2) ⟨fuel,by rw[hcs] at h;exact h⟩;exact⟨none,0,f,by rw[h1];exact hcs,h2,h3,by rw[h1];omega⟩
 ·obtain⟨f,h1,h2,h3,h4⟩:=Fa (enc:=enc) (W:=W) (a:=some y) (len:=l) (cap:=c) (d:=x.1) (p:=x.2) ⟨fuel,by rw[hcs] at h;exact h⟩;exact⟨some y,c,f,by rw[h1];exact hcs,h2,h3,by rw[h1];exact tX h4⟩
theorem Uw{enc:TypeId×Value->H}{W:World}{x:DataW H×List MemPlace}(h:DataW.trod enc prog W 0 (fun _=>true) true fuel 68 cs=some x):∃v:Atr,cs=[.string v.a,.int .i64 v.k,.int .i64 v.n,.string v.s]/\v.Wf:=by obtain⟨xs,m,_,_,hl,hxl,hf⟩:=fU underlying68 h;rw[Tryz.cellsA] at hl;obtain⟨c0,c2,c3,c4,rfl⟩:=aA4 hl;have e3:xs.length=2:=hxl;have h0:=hf 0 _ rfl;have h2:=hf 1 _ rfl;rw[aJ (by omega)] at h0 h2;have h0':DataW.trod enc prog W 0 (fun _=>true) true m 9 [c0]=some xs[0]:=h0;have h2':DataW.trod enc prog W 0 (fun _=>true) true m 45 [c2,c3,c4]=some xs[1]:=h2;obtain⟨a,ha,_,wa⟩:=DataW.trod_string underlying9 h0';obtain⟨k,n,s,hv,wk,wn,ws⟩:=Lg h2';simp only[dJ,and_true] at ha hv;obtain⟨rfl,rfl,rfl⟩:=hv;exact⟨⟨a,k,n,s⟩,by rw[ha],⟨wa,ws,(bounds_i64 wn).1,(bounds_i64 wn).2⟩⟩
theorem Id{enc:TypeId×Value->H}{W:World}{a:Option Addr}{len cap:Nat}{d:DataW H}{p:List MemPlace}(h:DataW.Trod enc prog W 0 (fun _=>true) true 41 (.slice a len cap) d p):∃f:List Atr,f.length=len/\rA W a f/\(∀x∈f,x.Wf)/\(len=0\/∃es sp,d=.slice es sp/\es.length=len):=by
 obtain⟨fuel,hf⟩:=h;rcases Go.Deep.open_slice underlying41 hf with⟨hcs,_⟩|⟨x,l,c,m,n,D,Pl,hcs,_,hl,hm,hmm,hd,lA⟩
 ·simp[Value.cells] at hcs;obtain⟨rfl,rfl,rfl⟩:=hcs;exact⟨[],rfl,Or.inl rfl,by simp,Or.inl rfl⟩
 ·simp[Value.cells] at hcs;obtain⟨rfl,rfl,rfl⟩:=hcs;have hmm':m=cap:=by simpa using hmm
  subst hmm';rw[Tryz.cellsA] at lA;obtain⟨F,hF⟩:=Go.Deep.choose_lt (α:=Atr) (n:=len) (p:=fun i v=>W.cells? 0 (x.add (i*4)) 4=some [.string v.a,.int .i64 v.k,.int .i64 v.n,.string v.s]/\v.Wf) (fun i hi=>by obtain⟨cs',h1,h2⟩:=lA i (by omega);obtain⟨v,rfl,hw⟩:=Uw h2;exact⟨v,h1,hw⟩);have hlen:((List.range len).map F).length=len:=by simp
  refine⟨(List.range len).map F,hlen,?_,fun z hz=>?_,Or.inr ⟨_,_,(cP _ _ _ _▸hd).1,by simp⟩⟩
  ·by_cases h0:len=0
   ·exact Or.inl (dB.1 (by rw[hlen,h0]))
   ·obtain⟨b,off,spot⟩:=x;have cc:=fun(i:Nat)(hi:i<len)=>(fV (hF i hi).1).2.2;have hc:=cc 0 (by omega) 0 (by omega);simp only[eJ,eE] at hc;(have hspot:spot=none:=by simpa[Addr.add] using fX hc);subst hspot;refine Or.inr ⟨b,off,rfl,?_,fun i hi=>?_⟩
    ·have:=dC _ _ hc;simpa[Addr.add] using this
    ·rw[hlen] at hi;(have e:aat ((List.range len).map F) i=F i:=by simp[aat,List.getD_eq_getElem?_getD,hi]);rw[e];have k0:=cc i hi 0 (by omega);have k1:=cc i hi 1 (by omega);have k2:=cc i hi 2 (by omega);have k3:=cc i hi 3 (by omega);rw[nK,nK] at k0 k1 k2 k3;exact⟨k0,k1,k2,k3⟩
  ·obtain⟨i,hi,rfl⟩:=aC.1 hz;exact(hF i (by simpa using hi)).2
theorem Pt{enc:TypeId×Value->H}{W:World}{x:DataW H×List MemPlace}(h:DataW.trod enc prog W 0 (fun _=>true) true fuel 41 cs=some x):∃(a:Option Addr)(cap:Nat)(f:List Atr),cs=[.slice a f.length cap]/\rA W a f/\(∀z∈f,z.Wf)/\f.length<=Rows.uptoBulk x.1:=by
 rcases Go.Deep.open_slice underlying41 h with⟨hcs,_⟩|⟨y,l,c,m,n,D,Pl,hcs,_⟩
 ·obtain⟨f,h1,h2,h3,h4⟩:=Id (enc:=enc) (W:=W) (a:=none) (len:=0) (cap:=0) (d:=x.1) (p:=x.2) ⟨fuel,by rw[hcs] at h;exact h⟩;exact⟨none,0,f,by rw[h1];exact hcs,h2,h3,by rw[h1];omega⟩
 ·obtain⟨f,h1,h2,h3,h4⟩:=Id (enc:=enc) (W:=W) (a:=some y) (len:=l) (cap:=c) (d:=x.1) (p:=x.2) ⟨fuel,by rw[hcs] at h;exact h⟩;exact⟨some y,c,f,by rw[h1];exact hcs,h2,h3,by rw[h1];exact tX h4⟩
theorem Sd{enc:TypeId×Value->H}{W:World}{x:DataW H×List MemPlace}(h:DataW.trod enc prog W 0 (fun _=>true) true fuel 30 cs=some x):∃e:Ky,cs=[.int .i64 e.1,.int .i64 e.2]/\I64 e.1/\I64 e.2:=by obtain⟨xs,m,_,_,hl,hxl,hf⟩:=DataW.trod_array underlying30 h;rw[Tryz.cellsP] at hl;obtain⟨c0,c1,rfl⟩:=aBP hl;have e3:xs.length=2:=hxl;have h0:=hf 0 (by omega);have h1:=hf 1 (by omega);rw[aJ (by omega)] at h0 h1;have h0':DataW.trod enc prog W 0 (fun _=>true) true m 3 [c0]=some xs[0]:=h0;have h1':DataW.trod enc prog W 0 (fun _=>true) true m 3 [c1]=some xs[1]:=h1;obtain⟨a,ha,_,wa⟩:=eA underlying3 h0';obtain⟨b,hb,_,wb⟩:=eA underlying3 h1';simp only[dJ,and_true] at ha hb;exact⟨(a,b),by rw[ha,hb],bounds_i64 wa,bounds_i64 wb⟩
theorem Hi{enc:TypeId×Value->H}{W:World}{a:Option Addr}{len cap:Nat}{d:DataW H}{p:List MemPlace}(h:DataW.Trod enc prog W 0 (fun _=>true) true 22 (.slice a len cap) d p):∃es:List Ky,es.length=len/\pW W a es/\(∀e∈es,I64 e.1/\I64 e.2)/\len<=Rows.uptoBulk d:=by
 obtain⟨fuel,hf⟩:=h;rcases Go.Deep.open_slice underlying22 hf with⟨hcs,_⟩|⟨x,l,c,m,n,D,Pl,hcs,_,hl,hm,hmm,hd,lA⟩
 ·simp[Value.cells] at hcs;obtain⟨rfl,rfl,rfl⟩:=hcs;exact⟨[],rfl,Or.inl rfl,fun x hx=>(by cases hx),zZ⟩
 ·simp[Value.cells] at hcs;obtain⟨rfl,rfl,rfl⟩:=hcs;have hmm':m=cap:=by simpa using hmm
  subst hmm';rw[Tryz.cellsP] at lA;obtain⟨F,hF⟩:=Go.Deep.choose_lt (α:=Ky) (n:=len) (p:=fun i e=>W.cells? 0 (x.add (i*2)) 2=some [.int .i64 e.1,.int .i64 e.2]/\I64 e.1/\I64 e.2) (fun i hi=>by obtain⟨cs',h1,h2⟩:=lA i (by omega);obtain⟨v,rfl,hw⟩:=Sd h2;exact⟨v,h1,hw⟩);have hlen:((List.range len).map F).length=len:=by simp
  refine⟨(List.range len).map F,hlen,?_,fun z hz=>?_,tX (Or.inr ⟨_,_,(cP _ _ _ _▸hd).1,by simp⟩)⟩
  ·by_cases h0:len=0
   ·exact Or.inl (dB.1 (by rw[hlen,h0]))
   ·obtain⟨b,off,spot⟩:=x;have cc:=fun(i:Nat)(hi:i<len)=>(fV (hF i hi).1).2.2;have hc:=cc 0 (by omega) 0 (by omega);simp only[eJ,eE] at hc;(have hspot:spot=none:=by simpa[Addr.add] using fX hc);subst hspot;refine Or.inr ⟨b,off,rfl,?_,fun i hi=>?_⟩
    ·have:=dC _ _ hc;simpa[Addr.add] using this
    ·rw[hlen] at hi;(have e:eat ((List.range len).map F) i=F i:=by simp[eat,List.getD_eq_getElem?_getD,hi]);rw[e];have k0:=cc i hi 0 (by omega);have k1:=cc i hi 1 (by omega);rw[nK,nK] at k0 k1;exact⟨k0,k1⟩
  ·obtain⟨i,hi,rfl⟩:=aC.1 hz;exact(hF i (by simpa using hi)).2
def aAJ(W:World)(v:Stp):Prop:=oW W v.fad v.f/\(∀z∈v.f,z.Wf)/\rA W v.ead v.e/\(∀z∈v.e,z.Wf)/\I64 v.wh/\I64 v.kind/\I64 v.a/\I64 v.b
theorem Rd{enc:TypeId×Value->H}{W:World}{x:DataW H×List MemPlace}(h:DataW.trod enc prog W 0 (fun _=>true) true fuel 43 cs=some x):∃v:Stp,cs=[.int .i64 v.wh,.int .i64 v.kind,.int .i64 v.a,.int .i64 v.b,.slice v.fad v.f.length v.fc,.slice v.ead v.e.length v.ec]/\aAJ W v/\(v.f.length<=Rows.uptoBulk x.1/\v.e.length<=Rows.uptoBulk x.1)/\7<=Rows.uptoBulk x.1:=by
 obtain⟨xs,m,_,hx,hl,hxl,hf⟩:=fU underlying43 h;rw[Tryz.cellsSt] at hl;obtain⟨c0,c1,c2,c3,c4,c5,rfl⟩:=aBO hl;have e3:xs.length=6:=hxl;have h0:=hf 0 _ rfl;have h1:=hf 1 _ rfl;have h2:=hf 2 _ rfl;have h3:=hf 3 _ rfl;have h4:=hf 4 _ rfl;have h5:=hf 5 _ rfl;rw[aJ (by omega)] at h0 h1 h2 h3 h4 h5;have h0':DataW.trod enc prog W 0 (fun _=>true) true m 3 [c0]=some xs[0]:=h0;have h1':DataW.trod enc prog W 0 (fun _=>true) true m 3 [c1]=some xs[1]:=h1;have h2':DataW.trod enc prog W 0 (fun _=>true) true m 3 [c2]=some xs[2]:=h2;have h3':DataW.trod enc prog W 0 (fun _=>true) true m 3 [c3]=some xs[3]:=h3;have h4':DataW.trod enc prog W 0 (fun _=>true) true m 40 [c4]=some xs[4]:=h4;have h5':DataW.trod enc prog W 0 (fun _=>true) true m 41 [c5]=some xs[5]:=h5;obtain⟨a,ha,_,wa⟩:=eA underlying3 h0';obtain⟨b,hb,_,wb⟩:=eA underlying3 h1';obtain⟨c,hc,_,wc⟩:=eA underlying3 h2';obtain⟨d,hd,_,wd⟩:=eA underlying3 h3';obtain⟨ad,cap,f,he,hi,hw,hll⟩:=Nj h4';obtain⟨ead,ec,ev,he5,hi5,hw5,hl5⟩:=Pt h5';simp only[dJ,and_true] at ha hb hc hd he he5;have hlen:=Ia (H:=H) (xs.map (·.1));have hin:=tC (H:=H) (d:=(xs[4]).1) (l:=xs.map (·.1)) (aQ (eG (by omega)));have hin5:=tC (H:=H) (d:=(xs[5]).1) (l:=xs.map (·.1)) (aQ (eG (by omega)));rw[aB,e3] at hlen;refine⟨⟨a,b,c,d,f,ad,cap,ev,ead,ec⟩,by rw[ha,hb,hc,hd,he,he5],⟨hi,hw,hi5,hw5,bounds_i64 wa,bounds_i64 wb,bounds_i64 wc,bounds_i64 wd⟩,?_,?_⟩
 ·rw[hx];simp only[Rows.uptoBulk];exact⟨by omega,by omega⟩
 ·rw[hx];simp only[Rows.uptoBulk];omega
theorem Pp(l:List (DataW H))(k:Nat)(h:∀d∈l,k<=Rows.uptoBulk d):l.length*k<=Rows.uptoBulkAll l:=by
 induction l with
 |nil=>simp
 |cons x r ih=>have h1:=h x bC;have h2:=ih (fun d hd=>h d (bE _ hd));simp only[Rows.uptoBulkAll,bA];rw[eB];omega
theorem Qz{enc:TypeId×Value->H}{W:World}{a:Option Addr}{len cap:Nat}{d:DataW H}{p:List MemPlace}(h:DataW.Trod enc prog W 0 (fun _=>true) true 23 (.slice a len cap) d p):∃xs:List Stp,xs.length=len/\Qa (fun k=>k<W.heap.size) W a xs/\(∀x∈xs,aAJ W x/\x.f.length<=Rows.uptoBulk d/\x.e.length<=Rows.uptoBulk d)/\len*7<=Rows.uptoBulk d:=by
 obtain⟨fuel,hf⟩:=h;rcases Go.Deep.open_slice underlying23 hf with⟨hcs,_⟩|⟨x,l,c,m,n,D,Pl,hcs,_,hl,hm,hmm,hd,lA⟩
 ·simp[Value.cells] at hcs;obtain⟨rfl,rfl,rfl⟩:=hcs;exact⟨[],rfl,Or.inl rfl,fun x hx=>(by cases hx),zZ⟩
 ·simp[Value.cells] at hcs;obtain⟨rfl,rfl,rfl⟩:=hcs;have hmm':m=cap:=by simpa using hmm
  subst hmm';rw[Tryz.cellsSt] at lA;have hd1:=(cP _ _ _ _▸hd).1;obtain⟨F,hF⟩:=Go.Deep.choose_lt (α:=Stp) (n:=len) (p:=fun i v=>W.cells? 0 (x.add (i*6)) 6=some [.int .i64 v.wh,.int .i64 v.kind,.int .i64 v.a,.int .i64 v.b,.slice v.fad v.f.length v.fc,.slice v.ead v.e.length v.ec]/\aAJ W v/\(v.f.length<=Rows.uptoBulk (D i)/\v.e.length<=Rows.uptoBulk (D i))/\7<=Rows.uptoBulk (D i)) (fun i hi=>by obtain⟨cs',h1,h2⟩:=lA i (by omega);obtain⟨v,rfl,hw⟩:=Rd h2;exact⟨v,h1,hw⟩);have hlen:((List.range len).map F).length=len:=by simp
  refine⟨(List.range len).map F,hlen,?_,fun z hz=>?_,?_⟩
  ·by_cases h0:len=0
   ·exact Or.inl (dB.1 (by rw[hlen,h0]))
   ·obtain⟨b,off,spot⟩:=x;have cc:=fun(i:Nat)(hi:i<len)=>(fV (hF i hi).1).2.2;have hc:=cc 0 (by omega) 0 (by omega);simp only[eJ,eE] at hc;(have hspot:spot=none:=by simpa[Addr.add] using fX hc);subst hspot;refine Or.inr ⟨b,off,rfl,?_,fun i hi=>?_⟩
    ·have:=dC _ _ hc;simpa[Addr.add] using this
    ·rw[hlen] at hi;(have e:sat ((List.range len).map F) i=F i:=by simp[sat,List.getD_eq_getElem?_getD,hi]);rw[e];have k0:=cc i hi 0 (by omega);have k1:=cc i hi 1 (by omega);have k2:=cc i hi 2 (by omega);have k3:=cc i hi 3 (by omega);have k4:=cc i hi 4 (by omega);have k5:=cc i hi 5 (by omega);rw[nK,nK] at k0 k1 k2 k3 k4 k5;exact⟨k0,k1,k2,k3,k4,k5⟩
  ·obtain⟨i,hi,rfl⟩:=aC.1 hz;(have hi':i<len:=by simpa using hi);refine⟨(hF i hi').2.1,?_⟩;have h4:=(hF i hi').2.2.1;rw[hd1];simp only[Rows.uptoBulk];have:=tC (H:=H) (d:=D i) (l:=(List.range len).map D) (aC.2 ⟨i,hi,rfl⟩);exact⟨by omega,by omega⟩
  ·rw[hd1];simp only[Rows.uptoBulk];have:=Pp (H:=H) ((List.range len).map D) 7 (fun z hz=>by obtain⟨i,hi,rfl⟩:=aC.1 hz;exact(hF i (by simpa using hi)).2.2.2);rw[aB,List.length_range] at this;omega
theorem Le.wide{LB:Nat}(h:Le A LB D M w)(hA:∀k,A k->A' k)(hb:∀k,A' k->A k\/sI w k):Le A' LB D M w:=by
 obtain⟨base,ve,vew,vf,vw,Es,Fs,h⟩:=h;exact⟨base,ve,vew,vf,vw,Es,Fs,h.lt,h.lb,h.e,h.f,h.m,h.n,h.elen,h.len,h.eo,h.ew,h.fo,h.wo,h.eos,h.os,fun e he=>(by
  obtain⟨b,off,e1,e2⟩:=h.ear e he;exact⟨b,off,e1,hA b e2⟩),fun e he=>(by
  obtain⟨b,off,e1,e2⟩:=h.ar e he;exact⟨b,off,e1,hA b e2⟩),fun k hk=>(hb k hk).elim (h.ba k) Or.inr⟩
theorem St.wide{T:Tc}{C:Rc}{r R:Nat->Rl}{LB:Nat}{L:Nat}{cs:List (Pc (List Atr))}{s:Ts}(h:St A T C r R LB PB BB B D L M w cs s)(g:Gr w w2)(hA:∀k,A k->A' k)(hF:∀k,A' k->A k\/(w.heap.size<=k/\k<w2.heap.size/\sI w2 k)):St A' T C r R LB PB BB B D L M w2 cs s:=by
 have h2:=h.gr g;have tr:=h.pr.p.b.top;have tR:=h.pr.q.top.1;have tA:=h.pr.q.top.2;have tp:=fZ h.pr.pb;have aR:=h.aR;refine⟨⟨h2.pr.p,h2.pr.q.wide hA (fun k hk=>?_) (fun k hk=>?_),h2.pr.ap,fun k hk=>?_,h2.pr.R0,h2.pr.pb,h2.pr.np⟩,h2.bo,h2.le.wide hA (fun k hk=>(hF k hk).imp id (fun e=>e.2.2)),fun k hk=>?_,fun k hk=>?_⟩
 ·rcases hF k hk with e|e
  ·exact aR k e
  ·exact tR k e.1
 ·rcases hF k hk with e|e
  ·exact g.lt (tA k e)
  ·exact e.2.1
 ·rcases hF k hk with e|e
  ·exact h.pr.ar k e
  ·exact tr k e.1
 ·obtain⟨a1,a2,a3,a4,a5⟩:=h.sB k hk;refine⟨a1,a2,a3,fun c=>?_,a5⟩;rcases hF k c with e|e
  ·exact a4 e
  ·exact absurd (h.bo.lt k hk) (by omega)
 ·obtain⟨a1,a2,a3,a4⟩:=h.sD k hk;refine⟨a1,a2,fun c=>?_,a4⟩;rcases hF k c with e|e
  ·exact a3 e
  ·exact absurd (h.le.lt k hk) (by omega)
theorem Jx.rebase{S:Nat->Prop}{L:Nat}(h:Jx A G w0 BB Ks L Mw w (some PB) none)(g:Gr w w2)(hA:∀k,A k->A' k)(hF:∀k,A' k->A k\/(w.heap.size<=k/\k<w2.heap.size/\sI w2 k))(hS:∀k,S k->w.heap.size<=k/\k<w2.heap.size):Jx A' S w2 BB Ks L Mw w2 (some PB) none:=by
 obtain⟨B,O1,O2,j⟩:=h;have lB:=j.bo.lt;have l1:∀k,O1 k->k<w.heap.size:=fun k hk=>j.a.lt hk;obtain⟨T,C,r,R,LB,D,cs,s,nxt,rank,i1,i2,i3⟩:=j.a;refine⟨B,O1,O2,j.bo.gr g,⟨T,C,r,R,LB,D,cs,s,nxt,rank,i1,i2.wide g hA hF,i3⟩,j.b,j.ap,fun _ _=>rfl,fun k hk=>?_,lZ,fun k hk=>⟨fun c=>?_,(j.nb k hk).2⟩,fun k hk=>⟨fun c=>?_,j.b k,fun c=>?_⟩,⟨rfl,rfl,rfl⟩,j.ml.imp fun m hm=>g.ml hm⟩
 ·rcases hk with hk|hk
  ·rcases hF k hk with e|e
   ·exact g.lt (j.al k (Or.inl e))
   ·exact e.2.1
  ·exact(hS k hk).2
 ·rcases hF k c with e|e
  ·exact(j.nb k hk).1 e
  ·exact absurd (lB k hk) (by omega)
 ·exact absurd (l1 k c) (by have:=(hS k hk).1;omega)
 ·exact absurd (lB k c) (by have:=(hS k hk).1;omega)
theorem Tryz.infoPair:(Tryz.prog.info? 30).map (fun i=>(i.zero,i.size,i.bytes))=some (some (.agg #[.int .i64 0,.int .i64 0]),2,16):=by kernel_rfl
theorem Kx.call{E:Nat->Prop}{w1:World}(h:Kx E w w1)(g:Gr w1 w2):Kx E w w2:=⟨g.os.trans h.os,g.tape.trans h.tape,g.output.trans h.output,aA h.size g.size,fun k hk hn=>(g.block k (aF hk h.size)).trans (h.keep k hk hn)⟩
theorem Kx.set(h:Kx (fun k=>k=IB) w w')(j:Nat)(u:Value):Kx (fun k=>k=IB) w (w'.setCell ⟨IB,j,none⟩ u):=
 have b:=Below.setCell (Below.refl IB w') (p:=⟨IB,j,none⟩) lZ u
 ⟨b.os.trans h.os,b.tape.trans h.tape,b.output.trans h.output,aA h.size b.size,fun k hk hn=>(Below.heap_setCell w' ⟨IB,j,none⟩ u k hn).trans (h.keep k hk hn)⟩
theorem Kx.grw{w1:World}(h:Kx (fun k=>k=w.heap.size) w1 w2)(g:Gr w w1):Gr w w2:=⟨h.os.trans g.os,h.tape.trans g.tape,h.output.trans g.output,aA g.size h.size,fun k hk=>(h.keep k (g.lt hk) (by omega)).trans (g.block k hk)⟩
theorem Zf{a b c d:Value}(h:Value.tuple #[a,b]=.tuple #[c,d]):a=c/\b=d:=by injection h with h;injection h with h;injection h with h1 h;injection h with h2 _;exact⟨h1,h2⟩
theorem wO{yo:Option Addr}{c d:Int}(h:Value.tuple #[.pointer xo,.int .i64 c]=.tuple #[.pointer yo,.int .i64 d]):xo=yo/\c=d:=by obtain⟨h1,h2⟩:=Zf h;injection h1 with h1;injection h2 with _ h2;exact⟨h1,h2⟩
theorem xY(x y:Int)(W:World):(Op.equalIn 10000 30 (.agg #[.int .i64 x,.int .i64 y]) (.agg #[.int .i64 x,.int .i64 y])).run prog W=.ok true W:=by have:=Ke x y x y W;simpa using this
theorem Ib.set1(h:Ib IB X w)(g:Gr w' w)(hB:w'.heap.size<=IB)(i:Nat)(a b:Int):Ib IB (X.set i (a,b)) ((w.setCell ⟨IB,i*2,none⟩ (.int .i64 a)).setCell ⟨IB,i*2+1,none⟩ (.int .i64 b))/\Gr w' ((w.setCell ⟨IB,i*2,none⟩ (.int .i64 a)).setCell ⟨IB,i*2+1,none⟩ (.int .i64 b)):=⟨h.set i a b,wI (wI g hB _) hB _⟩
theorem Zy(n:Nat):hG (List.replicate n (0,0))=List.replicate (n*2) (.int .i64 0):=by
 induction n with
 |zero=>rfl
 |succ n ih=>rw[List.replicate_succ];simp only[hG,cQ] at ih ⊢;rw[ih,show(n+1)*2=n*2+1+1 by omega,List.replicate_succ,List.replicate_succ];rfl
theorem aAW(n:Nat):(madeCells #[.int .i64 0,.int .i64 0] (n*2)).toList=hG (List.replicate n (0,0)):=by
 have h1:(madeCells #[.int .i64 0,.int .i64 0] (n*2)).toList=List.replicate (n*2) (.int .i64 0):=by
  rw[List.eq_replicate_iff];refine⟨by simp[madeCells],fun x hx=>?_⟩;simp only[madeCells,Array.toList_map,aC] at hx;obtain⟨i,_,rfl⟩:=hx;have:i % 2=0\/i % 2=1:=by omega
  rcases this with e|e<;>simp[e]
 rw[h1,Zy]
theorem Ib.made{b n:Nat}(h:w.ownsRow b 30 2 (.slice (some ⟨b,0,none⟩) n n) n (madeCells #[.int .i64 0,.int .i64 0] (n*2)).toList):Ib b (List.replicate n (0,0)) w:=by
 rcases h.2 with⟨h2,_⟩|⟨g',cap,cur,hv,_,hg,_,_,hs,ht⟩
 ·cases h2
 ·injection hv with hv _ hc;injection hv with hv;injection hv with h1 _;subst h1 hc;refine⟨cur,hg,?_⟩;rw[aV (by rw[dO];omega)] at ht;rw[ht,aAW]
theorem NpP.split{n:Int}{nb:Nat}{adj:Nat->Nat->Bool}{e:Ending}(h:NpP n es nb adj w e w'):∃xo code,e=.returned (.tuple #[.pointer xo,.int .i64 code])/\Gr w w'/\NpP n es nb adj w (.returned (.tuple #[.pointer xo,.int .i64 code])) w':=by
 rcases h with⟨h1,rfl,h3⟩|⟨h1,TB,HB,hcap,MB,CB,LB,ml,r,rfl,h3,h4⟩
 ·exact⟨none,4,rfl,h3,Or.inl ⟨h1,rfl,h3⟩⟩
 ·exact⟨some ⟨TB,0,none⟩,0,rfl,h4.gr0,Or.inr ⟨h1,TB,HB,hcap,MB,CB,LB,ml,r,rfl,h3,h4⟩⟩
theorem RnK.split{n:Int}{nb:Nat}{adj:Nat->Nat->Bool}{nxt:Nat->Nat->Int}{w1:World}{code:Int}{e:Ending}(np:NpP n es nb adj w (.returned (.tuple #[.pointer xo,.int .i64 code])) w1)(rn:RnK A w1 n es e w2)(hT:jD n es=true->Tsh n es nb adj nxt)(hA:∀k,A k->k<w.heap.size)(h0:0<w.heap.size):∃yo,e=.returned (.tuple #[.pointer yo,.int .i64 code])/\Gr w1 w2/\N2P A n es nb adj w (.tuple #[.pointer xo,.int .i64 code]) (.tuple #[.pointer yo,.int .i64 code]) w2:=by
 have rn':=rn;unfold RnK at rn';rw[sQ] at rn';rcases rn' with⟨h1,rfl,h3⟩|⟨h1,C,R,lv,Ls,rfl,h3,h4,h5,h6⟩
 ·rcases np with⟨ht,he,g⟩|⟨ht,_⟩
  ·injection he with he;obtain⟨e1,e2⟩:=Zf he;injection e2 with _ e2;subst e2;exact⟨none,rfl,h3,N2P.of (Or.inl ⟨ht,by rw[he],g⟩) rn hT hA h0⟩
  ·rw[ht] at h1;cases h1
 ·have np':=np;rcases np' with⟨ht,he,g⟩|⟨ht,TB,HB,hcap,MB,CB,LB,ml,r,he,tf,fr⟩
  ·rw[ht] at h1;cases h1
  ·injection he with he;obtain⟨e1,e2⟩:=Zf he;injection e2 with _ e2;subst e2;exact⟨_,rfl,h6.gr0,N2P.of np rn hT hA h0⟩
theorem zD(A:Nat->Prop)(n:Int)(es:List Ky)(ad:Option Addr)(cap BB:Nat)(nb:Nat)(adj:Nat->Nat->Bool)(nxt:Nat->Nat->Int)(w:World)(hl:es.length<=1048576)(h:pW w ad es)(hI:∀e∈es,I64 e.1/\I64 e.2)(hml:∃m,Ml m w)(hA:∀k,A k->k<w.heap.size)(hT:jD n es=true->Tsh n es nb adj nxt):Calls prog 6 #[.int .i64 n,.slice ad es.length cap,.pointer (some ⟨BB,0,none⟩)] w fun e w'=>OpP A n es BB nb adj w e w':=by
 obtain⟨i0,hi,hz0,hz1,hz2⟩:=info_parts Tryz.infoPair;have HE:=hZ h;have HA:=hZ hA;have HW0:Hid (0<w.heap.size):=by obtain⟨m,hm⟩:=hml;exact hm.pos
 have NP:Hid (∀(W:World)(a:Option Addr)(c:Nat),Gr w W->pW W a es->Calls prog 13 #[.int .i64 n,.slice a es.length c] W fun e w'=>∃xo code,e=.returned (.tuple #[.pointer xo,.int .i64 code])/\Gr W w'/\NpP n es nb adj W (.returned (.tuple #[.pointer xo,.int .i64 code])) w'):=fun W a c g ha=>(So n es a c W nb adj nxt (aA hl (by decide)) ha hI (hml.imp fun m hm=>g.ml hm) hT).mono (fun e w' he=>he.split);have NR:Hid (∀(W W1:World)(xo:Option Addr)(code:Int),Gr w W->(Gr W W1/\NpP n es nb adj W (.returned (.tuple #[.pointer xo,.int .i64 code])) W1)->Calls prog 14 #[.int .i64 n,.slice ad es.length cap] W1 fun e w'=>∃yo,e=.returned (.tuple #[.pointer yo,.int .i64 code])/\Gr W1 w'/\N2P A n es nb adj W (.tuple #[.pointer xo,.int .i64 code]) (.tuple #[.pointer yo,.int .i64 code]) w'):=fun W W1 xo code g hq=>(Wv A n es ad cap W1 (h.gr (Gr.call g hq.1)) (fun k hk=>(Gr.call g hq.1).lt (hA k hk))).mono (fun e w' he=>RnK.split hq.2 he hT (fun k hk=>g.lt (hA k hk)) (g.lt HW0.out));clear h hI hml hA hT;go_enter func6,ntmps6;go_wp2_with(at_make;refine wpList_make_full _ rfl _ _ 22 rfl w.heap.size 30 i0 _ 2 underlying22 hi hz0 hz1 _ _ _ _ (es.length+8) rfl rfl (by omega) (by omega) ?b2 ?b3 ?b4 ?_);case b2=>rw[hz2];omega
 case b3=>unfold maxLen;omega
 case b4=>exact lZ
 intro w1 hown1 hgrow1;have g1:Gr w w1:=Below.grown (Gr.refl w) hgrow1 lZ (fun b hb=>by cases hb);have IB1:Hid (Ib w.heap.size (List.replicate (es.length+8) (0,0)) w1):=Ib.made hown1;have G1:=hZ g1;clear hown1 hgrow1 g1;go_wp2_with fail;go_loopw [9] (fun i wr=>∃(q:Nat)(X:List Ky),q<=es.length+8/\i=.int .i64 q/\Hid (X.length=es.length+8)/\Hid (∀j,j<q->eat X j=eat (uP es) j)/\Hid (Gr w wr)/\Hid (Ib w.heap.size X wr)) (fun i _=>es.length+8-(intOf i).toNat);case atStart=>exact⟨0,_,zZ,rfl,by show _=_;simp,fun j hj=>absurd hj (cL _),G1,IB1⟩
 case round=>
  obtain⟨q,X,hq,rfl,HL,HX,HG,HB⟩:=hrel;by_cases hlt:q<es.length+8
  ·obtain⟨c0,c1⟩:=HB.cell (i:=q) (by rw[HL.out];exact hlt);have f0:=HB.fz (q*2);have f1:=HB.fz (q*2+1);by_cases hqf:q<es.length
   ·obtain⟨b,off,e0,hbl,hce⟩:=HE.resolve_left (fun e=>by rw[e] at hqf;exact absurd hqf (cL _));subst e0;obtain⟨d0,d1⟩:=hce q hqf;(have nb:b≠w.heap.size:=by omega);rw[<-(gP HG.out).1 b _ hbl] at d0 d1;have S1:=HB.set1 HG.out lZ q 77 77;have k0:=S1.1.fz (q*2);have k1:=S1.1.fz (q*2+1);have S2:=hZ (S1.1.set1 S1.2 lZ q (eat es q).1 (eat es q).2);clear S1 hce;go_wp2_with fail;refine⟨⟨q+1,_,by omega,by simp,?_,?_,S2.2,S2.1⟩,gD _ _ hlt⟩
    ·show _=_;rw[bR,bR];exact HL.out
    ·intro j hj;rw[vG (by rw[bR,HL.out];exact hlt),vG (by rw[HL.out];exact hlt)];by_cases e:j=q
     ·subst e;rw[if_pos rfl,sZ hqf]
     ·rw[if_neg e,if_neg e];exact HX j (by omega)
   ·have S1:=hZ (HB.set1 HG.out lZ q 77 77);go_wp2_with fail;refine⟨⟨q+1,_,by omega,by simp,?_,?_,S1.2,S1.1⟩,gD _ _ hlt⟩
    ·show _=_;rw[bR];exact HL.out
    ·intro j hj;rw[vG (by rw[HL.out];exact hlt)];by_cases e:j=q
     ·subst e;rw[if_pos rfl,tW hqf hlt]
     ·rw[if_neg e];exact HX j (by omega)
  ·(have hqe:q=es.length+8:=by omega);obtain⟨wx,hwx⟩:∃wx,wx=wr:=⟨wr,rfl⟩;subst hwx;have EA:Hid (pW wx (some ⟨w.heap.size,0,none⟩) es):=Or.inr ⟨w.heap.size,0,rfl,HB.lt,fun i hi=>by obtain⟨c0,c1⟩:=HB.cell (i:=i) (by rw[HL.out];omega);rw[HX.out i (by omega),sZ hi] at c0 c1;rw[cE];exact⟨c0,c1⟩⟩;have NN:Hid (Calls prog 13 #[.int .i64 n,if es.length=0 then .slice none 0 0 else .slice (some ⟨w.heap.size,0,none⟩) es.length (es.length+8)] wx fun e w'=>∃xo code,e=.returned (.tuple #[.pointer xo,.int .i64 code])/\Gr wx w'/\NpP n es nb adj wx (.returned (.tuple #[.pointer xo,.int .i64 code])) w'):=by
    show Calls _ _ _ _ _;by_cases h0:es.length=0
    ·rw[if_pos h0];have:=NP wx none 0 HG.out (Or.inl (dB.1 h0));rw[h0] at this;exact this
    ·rw[if_neg h0];exact NP wx _ _ HG.out EA.out
   clear NP EA;by_cases h0:es.length=0
   ·(have h0':((es.length:Int)==0)=true:=by simp[h0]);rw[if_pos h0] at NN;clear h0;go_wp2_with fail;clear h0';refine NN.mono ?_;rintro e w2 ⟨xo,code,rfl,g2,q1⟩;have RR:=hZ (NR wx w2 xo code HG.out ⟨g2,q1⟩);have G2:=hZ g2;clear NN NR g2 q1;go_wp2_with fail;refine RR.mono ?_;rintro e w3 ⟨yo,rfl,g3,q2⟩;have QQ:=hZ q2;have G3:=hZ (Gr.call G2.out g3);have I3:=hZ (HB.gr G3.out);have GW:=hZ (Gr.call HG.out G3.out);have GX:=hZ HG.size;have HLT:Hid (w.heap.size<wx.heap.size/\w.heap.size≠0/\¬A w.heap.size):=⟨HB.lt,by have:=HW0.out;omega,fun c=>absurd (HA _ c) (by omega)⟩;clear RR G2 g3 q2;go_wp2_with fail;go_loopw [15,16] (fun ok i w4=>∃(p:Nat)(Y:List Ky),p<=es.length+8/\ok=.bool true/\i=.int .i64 p/\Hid (Y.length=es.length+8)/\Hid (∀j,p<=j->j<es.length+8->eat Y j=eat (uP es) j)/\Hid (Kx (fun k=>k=w.heap.size) w3 w4)/\Hid (Ib w.heap.size Y w4)) (fun _ i _=>es.length+8-(intOf i).toNat);case atStart=>exact⟨0,X,zZ,rfl,rfl,HL,fun j _ hj=>HX j (by omega),Kx.gr gZ,I3⟩
    case round=>
     obtain⟨p,Y,hp,rfl,rfl,HL3,HX3,HK,HB3⟩:=hrel;by_cases hlt3:p<es.length+8
     ·obtain⟨c0,c1⟩:=HB3.cell (i:=p) (by rw[HL3.out];exact hlt3);rw[HX3.out p lZ hlt3] at c0 c1;have f0:=HB3.fz (p*2);have f1:=HB3.fz (p*2+1);have S3:=hZ (And.intro (HB3.set p 0 1) ((HK.set (p*2) (.int .i64 0)).set (p*2+1) (.int .i64 1)));(have L3:Hid ((Y.set p (0,1)).length=es.length+8):=by show _=_;rw[bR];exact HL3.out);(have X3:Hid (∀j,p+1<=j->j<es.length+8->eat (Y.set p (0,1)) j=eat (uP es) j):=fun j h1 h2=>by rw[vG (by rw[HL3.out];exact hlt3),if_neg (by omega)];exact HX3 j (by omega) h2);by_cases hpf:p<es.length
      ·obtain⟨b,off,e0,hbl,hce⟩:=HE.resolve_left (fun e=>by rw[e] at hpf;exact absurd hpf (cL _));subst e0;obtain⟨d0,d1⟩:=hce p hpf;have gw:=Gr.call HG.out G3.out;have eb:=(HK.keep b (gw.lt hbl) (by omega)).trans (gw.block b hbl);rw[<-hN eb] at d0 d1;rw[sZ hpf] at c0 c1;have eq1:=xY (eat es p).1 (eat es p).2;clear hce eb gw;go_wp2_with fail;go_quiet(fail);have S3:=hZ (And.intro ((HB3.gr (gZ.drewN nq)).set p 0 1) (((HK.call (gZ.drewN nq)).set (p*2) (.int .i64 0)).set (p*2+1) (.int .i64 1)));go_wp2_with fail;exact⟨⟨p+1,_,by omega,rfl,by simp,L3,X3,S3.2,S3.1⟩,gD _ _ hlt3⟩
      ·rw[tW hpf hlt3] at c0 c1;have eq1:=xY 77 77;go_wp2_with fail;exact⟨⟨p+1,_,by omega,rfl,by simp,L3,X3,S3.2,S3.1⟩,gD _ _ hlt3⟩
     ·clear HX3 HL3 HB3;go_wp2_with fail;refine(nU code wr).mono ?_;rintro e w5 ⟨rfl,hw5⟩;have hw5':=hw5.symm;clear hw5;subst hw5';rcases QQ.out with⟨ht,pe,re,gq⟩|⟨ht,T,C,r,R,pe,re,hnb',hadj',⟨HB',hcap',MB',CB',LB',ml',hTe⟩,tw,gq⟩
      ·obtain⟨rfl,rfl⟩:=wO pe;obtain⟨rfl,_⟩:=wO re;have FIN:Hid (OpP A n es BB nb adj w (.returned (.tuple #[.pointer none,.bool true])) wr):=Or.inl ⟨ht,rfl,HK.grw GW.out⟩;clear QQ pe re gq ht;go_wp2_with fail;exact bodyPost_ret (v:=.tuple #[.pointer none,.bool true]) (by simp[results,results6,go_sem]) rfl FIN.out
      ·obtain⟨rfl,rfl⟩:=wO pe;obtain⟨rfl,_⟩:=wO re;have FIN:Hid (OpP A n es BB nb adj w (.returned (.tuple #[.pointer (some ⟨wr.heap.size+1,0,none⟩),.bool true])) ((wr.alloc (.cells Cg 66)).alloc (.cells #[.pointer (some ⟨T.TB,0,none⟩),.pointer (some ⟨C.TB,0,none⟩),.pointer (some ⟨wr.heap.size,0,none⟩),.pointer (some ⟨BB,0,none⟩)] 55))):=by
        refine Or.inr ⟨ht,T,C,r,R,wr.heap.size,wr.heap.size+1,wx,wr,rfl,((HK.grw GW.out).alloc _).alloc _,⟨T.TB,HB',hcap',MB',CB',LB',ml',hTe⟩,tw.apart HK.out HLT.1 HLT.2.1 HLT.2.2,GX.out,((Gr.refl wr).alloc _).alloc _,?_,?_,lZ,cD _,by omega⟩
        ·rw[gF _ _ (by simp)];exact fY _ _
        ·have:=fY (wr.alloc (.cells Cg 66)) (.cells #[.pointer (some ⟨T.TB,0,none⟩),.pointer (some ⟨C.TB,0,none⟩),.pointer (some ⟨wr.heap.size,0,none⟩),.pointer (some ⟨BB,0,none⟩)] 55);rw[dL] at this;exact this
       clear QQ pe re gq ht tw hTe hnb' hadj';go_wp2_with fail;exact bodyPost_ret (v:=.tuple #[.pointer (some ⟨wr.heap.size+1,0,none⟩),.bool true]) (by simp[results,results6,go_sem]) rfl FIN.out
   ·(have h0':((es.length:Int)==0)=false:=by simpa using h0);rw[if_neg h0] at NN;clear h0;go_wp2_with fail;clear h0';refine NN.mono ?_;rintro e w2 ⟨xo,code,rfl,g2,q1⟩;have RR:=hZ (NR wx w2 xo code HG.out ⟨g2,q1⟩);have G2:=hZ g2;clear NN NR g2 q1;go_wp2_with fail;refine RR.mono ?_;rintro e w3 ⟨yo,rfl,g3,q2⟩;have QQ:=hZ q2;have G3:=hZ (Gr.call G2.out g3);have I3:=hZ (HB.gr G3.out);have GW:=hZ (Gr.call HG.out G3.out);have GX:=hZ HG.size;have HLT:Hid (w.heap.size<wx.heap.size/\w.heap.size≠0/\¬A w.heap.size):=⟨HB.lt,by have:=HW0.out;omega,fun c=>absurd (HA _ c) (by omega)⟩;clear RR G2 g3 q2;go_wp2_with fail;go_loopw [15,16] (fun ok i w4=>∃(p:Nat)(Y:List Ky),p<=es.length+8/\ok=.bool true/\i=.int .i64 p/\Hid (Y.length=es.length+8)/\Hid (∀j,p<=j->j<es.length+8->eat Y j=eat (uP es) j)/\Hid (Kx (fun k=>k=w.heap.size) w3 w4)/\Hid (Ib w.heap.size Y w4)) (fun _ i _=>es.length+8-(intOf i).toNat);case atStart=>exact⟨0,X,zZ,rfl,rfl,HL,fun j _ hj=>HX j (by omega),Kx.gr gZ,I3⟩
    case round=>
     obtain⟨p,Y,hp,rfl,rfl,HL3,HX3,HK,HB3⟩:=hrel;by_cases hlt3:p<es.length+8
     ·obtain⟨c0,c1⟩:=HB3.cell (i:=p) (by rw[HL3.out];exact hlt3);rw[HX3.out p lZ hlt3] at c0 c1;have f0:=HB3.fz (p*2);have f1:=HB3.fz (p*2+1);have S3:=hZ (And.intro (HB3.set p 0 1) ((HK.set (p*2) (.int .i64 0)).set (p*2+1) (.int .i64 1)));(have L3:Hid ((Y.set p (0,1)).length=es.length+8):=by show _=_;rw[bR];exact HL3.out);(have X3:Hid (∀j,p+1<=j->j<es.length+8->eat (Y.set p (0,1)) j=eat (uP es) j):=fun j h1 h2=>by rw[vG (by rw[HL3.out];exact hlt3),if_neg (by omega)];exact HX3 j (by omega) h2);by_cases hpf:p<es.length
      ·obtain⟨b,off,e0,hbl,hce⟩:=HE.resolve_left (fun e=>by rw[e] at hpf;exact absurd hpf (cL _));subst e0;obtain⟨d0,d1⟩:=hce p hpf;have gw:=Gr.call HG.out G3.out;have eb:=(HK.keep b (gw.lt hbl) (by omega)).trans (gw.block b hbl);rw[<-hN eb] at d0 d1;rw[sZ hpf] at c0 c1;have eq1:=xY (eat es p).1 (eat es p).2;clear hce eb gw;go_wp2_with fail;go_quiet(fail);have S3:=hZ (And.intro ((HB3.gr (gZ.drewN nq)).set p 0 1) (((HK.call (gZ.drewN nq)).set (p*2) (.int .i64 0)).set (p*2+1) (.int .i64 1)));go_wp2_with fail;exact⟨⟨p+1,_,by omega,rfl,by simp,L3,X3,S3.2,S3.1⟩,gD _ _ hlt3⟩
      ·rw[tW hpf hlt3] at c0 c1;have eq1:=xY 77 77;go_wp2_with fail;exact⟨⟨p+1,_,by omega,rfl,by simp,L3,X3,S3.2,S3.1⟩,gD _ _ hlt3⟩
     ·clear HX3 HL3 HB3;go_wp2_with fail;refine(nU code wr).mono ?_;rintro e w5 ⟨rfl,hw5⟩;have hw5':=hw5.symm;clear hw5;subst hw5';rcases QQ.out with⟨ht,pe,re,gq⟩|⟨ht,T,C,r,R,pe,re,hnb',hadj',⟨HB',hcap',MB',CB',LB',ml',hTe⟩,tw,gq⟩
      ·obtain⟨rfl,rfl⟩:=wO pe;obtain⟨rfl,_⟩:=wO re;have FIN:Hid (OpP A n es BB nb adj w (.returned (.tuple #[.pointer none,.bool true])) wr):=Or.inl ⟨ht,rfl,HK.grw GW.out⟩;clear QQ pe re gq ht;go_wp2_with fail;exact bodyPost_ret (v:=.tuple #[.pointer none,.bool true]) (by simp[results,results6,go_sem]) rfl FIN.out
      ·obtain⟨rfl,rfl⟩:=wO pe;obtain⟨rfl,_⟩:=wO re;have FIN:Hid (OpP A n es BB nb adj w (.returned (.tuple #[.pointer (some ⟨wr.heap.size+1,0,none⟩),.bool true])) ((wr.alloc (.cells Cg 66)).alloc (.cells #[.pointer (some ⟨T.TB,0,none⟩),.pointer (some ⟨C.TB,0,none⟩),.pointer (some ⟨wr.heap.size,0,none⟩),.pointer (some ⟨BB,0,none⟩)] 55))):=by
        refine Or.inr ⟨ht,T,C,r,R,wr.heap.size,wr.heap.size+1,wx,wr,rfl,((HK.grw GW.out).alloc _).alloc _,⟨T.TB,HB',hcap',MB',CB',LB',ml',hTe⟩,tw.apart HK.out HLT.1 HLT.2.1 HLT.2.2,GX.out,((Gr.refl wr).alloc _).alloc _,?_,?_,lZ,cD _,by omega⟩
        ·rw[gF _ _ (by simp)];exact fY _ _
        ·have:=fY (wr.alloc (.cells Cg 66)) (.cells #[.pointer (some ⟨T.TB,0,none⟩),.pointer (some ⟨C.TB,0,none⟩),.pointer (some ⟨wr.heap.size,0,none⟩),.pointer (some ⟨BB,0,none⟩)] 55);rw[dL] at this;exact this
       clear QQ pe re gq ht tw hTe hnb' hadj';go_wp2_with fail;exact bodyPost_ret (v:=.tuple #[.pointer (some ⟨wr.heap.size+1,0,none⟩),.bool true]) (by simp[results,results6,go_sem]) rfl FIN.out
end Go.Proofs.YtecnfgikbmcgoabGreat
