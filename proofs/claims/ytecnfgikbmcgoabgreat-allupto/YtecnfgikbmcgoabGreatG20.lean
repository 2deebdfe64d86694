import Derived.Test.YtecnfgikbmcgoabGreatG19
set_option maxHeartbeats 8000000
set_option maxRecDepth 100000
namespace Go.Proofs.YtecnfgikbmcgoabGreat
open Go.Proofs.Tryz
variable {B c j n':Nat}{w w':World}
theorem Cz(f:Nat->Nat->Nat):∀n m,sm n (fun a=>sm m fun b=>f a b)=sm m fun b=>sm n fun a=>f a b
 |0,m=>by simp only[sm,mY]
 |n+1,m=>by simp only[sm];rw[Cz f n m,<-mS]
theorem yN(f:Nat->Nat)(c:Nat):∀n,sm n (fun i=>f i*c)=sm n f*c
 |0=>by simp[sm]
 |n+1=>by simp only[sm,yN f c n,eB]
structure Rs(nb:Nat)(adj:Nat->Nat->Bool)(rank:Nat->Nat->Nat):Prop where
 sum:∀a b,adj a b=true->sm nb (fun y=>if adj b y=true/\y≠a then rank y b else 0)+1<=rank b a
 tot:∀b,b<nb->sm nb (fun y=>if adj b y=true then rank y b else 0)+1<=nb
theorem Pq{nb:Nat}{adj:Nat->Nat->Bool}{nxt:Nat->Nat->Int}(N:Nx adj nxt)(Z:Nz nb adj nxt):Rs nb adj (pV nb nxt):=by
 have one:∀(p:Nat->Prop) [DecidablePred p] (z:Int),sm nb (fun y=>if p y then(if z=(y:Int) then 1 else 0) else 0)<=1/\((∀y:Nat,p y->z≠(y:Int))->sm nb (fun y=>if p y then(if z=(y:Int) then 1 else 0) else 0)=0):=by
  intro p _ z;constructor
  ·have h1:=oJ nb (f:=fun y=>if p y then(if z=(y:Int) then 1 else 0) else 0) (g:=fun y=>if y=z.toNat then 1 else 0) (fun y _=>by
    split
    ·split
     ·rw[if_pos (by omega)];exact lZ
     ·exact zZ
    ·exact zZ)
   rw[mG] at h1;split at h1<;>omega
  ·intro h;have h1:=oJ nb (f:=fun y=>if p y then(if z=(y:Int) then 1 else 0) else 0) (g:=fun _=>0) (fun y _=>by
    split
    ·rename_i hp;rw[if_neg (h y hp)];exact lZ
    ·exact lZ)
   rw[mY] at h1;omega
 have push:∀(p:Nat->Prop) [DecidablePred p] (b:Nat),sm nb (fun y=>if p y then pV nb nxt y b else 0)=sm nb (fun t=>sm nb fun y=>if p y then(if nxt b t=(y:Int) then 1 else 0) else 0):=by
  intro p _ b;rw[<-Cz];refine mH nb (fun y _=>?_);by_cases hp:p y
  ·simp only[if_pos hp];rfl
  ·simp only[if_neg hp,mY]
 refine⟨fun a b hab=>?_,fun b hb=>?_⟩
 ·rw[push (fun y=>adj b y=true/\y≠a) b];have hba:=N.sym _ _ hab;have hbn:=(Z.inn a b hab).2;have h1:sm nb (fun t=>(sm nb fun y=>if adj b y=true/\y≠a then(if nxt b t=(y:Int) then 1 else 0) else 0)+(if t=b then 1 else 0))<=pV nb nxt b a:=by
   refine oJ nb (fun t _=>?_);have ho:=one (fun y=>adj b y=true/\y≠a) (nxt b t);by_cases htb:t=b
   ·subst htb;have hs:nxt t t=-1:=N.self t;rw[ho.2 (fun y _=>by rw[hs];omega),if_pos rfl,if_pos (N.back t a t hba (by rw[hs];omega))];exact lZ
   ·rw[if_neg htb];by_cases hn:nxt b t=(a:Int)
    ·rw[ho.2 (fun y hy=>by rw[hn];omega)];exact zZ
    ·rw[if_pos (N.back b a t hba hn)];exact ho.1
  rw[mS,mG,if_pos hbn] at h1;exact h1
 ·rw[push (fun y=>adj b y=true) b];have h1:sm nb (fun t=>(sm nb fun y=>if adj b y=true then(if nxt b t=(y:Int) then 1 else 0) else 0)+(if t=b then 1 else 0))<=sm nb fun _=>1:=by
   refine oJ nb (fun t _=>?_);have ho:=one (fun y=>adj b y=true) (nxt b t);by_cases htb:t=b
   ·subst htb;have hs:nxt t t=-1:=N.self t;rw[ho.2 (fun y _=>by rw[hs];omega),if_pos rfl];exact lZ
   ·rw[if_neg htb];exact ho.1
  rw[mS,mG,if_pos hb,nF] at h1;omega
section
variable {F E:Type}
variable {cov:F->F->Bool}{adj:Nat->Nat->Bool}{nxt:Nat->Nat->Int}{home:Int->Nat}{ok:F->Prop}{rank:Nat->Nat->Nat}
def lgt(cov:F->F->Bool)(R:Rl' F):Ms F E->Prop
 |.sub k f=>∃k' f',R k' f'/\iW cov ⟨k',f',0⟩ ⟨k,f,0⟩=true
 |.uns k=>∃f k' f',R k f/\R k' f'/\iW cov ⟨k',f',0⟩ ⟨k,f,0⟩=true
 |.ev _=>False
def cst(hw re:Nat):Ms F E->Nat
 |.sub _ _=>hw
 |.uns _=>hw
 |.ev _=>re
def Wq(cov:F->F->Bool)(hw re:Nat):List (Ms F E)->Rl' F->Nat->Prop
 |[],_,_=>True
 |m::r,R,n=>∃c n',c+n'<=n/\Wq cov hw re r (ap1 m R) n'/\((lgt cov R m/\1<=c)\/cst hw re m<=c)
variable {hw re:Nat}
theorem Wq.mono{q:List (Ms F E)}{R:Rl' F}{n:Nat}(h:Wq cov hw re q R n)(hn:n<=n'):Wq cov hw re q R n':=by
 cases q with
 |nil=>trivial
 |cons m r=>obtain⟨c,k,h1,h2⟩:=h;exact⟨c,k,aA h1 hn,h2⟩
theorem Wq.append{p q:List (Ms F E)}{R:Rl' F}{n:Nat}(h:Wq cov hw re p R n)(h':Wq cov hw re q (ap p R) n'):Wq cov hw re (p++q) R (n+n'):=by
 induction p generalizing R n with
 |nil=>exact h'.mono (by omega)
 |cons m r ih=>obtain⟨c,k,h1,h2,h3⟩:=h;exact⟨c,k+n',by omega,ih h2 h',h3⟩
theorem Wq.len(h1:1<=hw)(h2:1<=re):∀{q:List (Ms F E)}{R:Rl' F}{n:Nat},Wq cov hw re q R n->q.length<=n
 |[],_,_,_=>by simp
 |m::r,R,n,⟨c,k,h3,h4,h5⟩=>by
  have:=Wq.len h1 h2 h4;have:1<=c:=by
   rcases h5 with h5|h5
   ·exact h5.2
   ·cases m<;>simp only[cst] at h5<;>omega
  simp only[bA];omega
theorem Vl{xs:List (Hd F)}(hs:Srt xs){h:Hd F}{R:Rl' F}(hR:R h.key h.f)(hx:∀x∈xs,R x.key x.f/\x.key≠h.key/\iW cov h x=true):Wq cov hw re (qM xs:List (Ms F E)) R xs.length:=by
 induction xs generalizing R with
 |nil=>trivial
 |cons x t ih=>have hp:=cW.1 hs;obtain⟨h1,h2,h3⟩:=hx x (by simp);refine⟨1,t.length,by simp only[bA];omega,ih hp.2 ⟨fun e=>h2 e.symm,hR⟩ (fun y hy=>?_),Or.inl ⟨⟨x.f,h.key,h.f,h1,hR,h3⟩,lZ⟩⟩;obtain⟨k1,k2,k3⟩:=hx y (by simp[hy]);exact⟨⟨fun e=>rW (hp.1 y hy) e.symm,k1⟩,k2,k3⟩
theorem Vm{xs:List (Hd F)}{h:Hd F}{R:Rl' F}(hR:R h.key h.f)(hx:∀x∈xs,x.key≠h.key/\iW cov h x=true):Wq cov hw re (rL xs:List (Ms F E)) R xs.length:=by
 induction xs generalizing R with
 |nil=>trivial
 |cons x t ih=>obtain⟨h2,h3⟩:=hx x (by simp);exact⟨1,t.length,by simp only[bA];omega,ih (Or.inr ⟨fun e=>h2 e.symm,hR⟩) (fun y hy=>hx y (by simp[hy])),Or.inl ⟨⟨h.key,h.f,hR,h3⟩,lZ⟩⟩
theorem xN(P:Pre cov ok){l:List (Hd F)}{n:Int}{g h:Hd F}(hok:∀x∈l,ok x.f)(ho:ok h.f)(hg:g∈l)(hn:g.fr≠n)(hh:iW cov g h=true):woT cov l n h=[]/\isT cov l n h=false:=by
 constructor
 ·cases hw:woT cov l n h with
  |nil=>rfl
  |cons x t=>
   (have hx:x∈woT cov l n h:=by rw[hw];simp);obtain⟨h1,h2⟩:=uV.1 hx;obtain⟨h3,_,h5⟩:=(iJ cov).1 h1;have:=Gs P (hok g hg) ho (hok x h3) hh h2;rw[h5 g hg hn] at this;cases this
 ·cases hi:isT cov l n h with
  |false=>rfl
  |true=>have:=nV.1 hi g hg hn;rw[hh] at this;cases this
theorem Tj{l:List (Hd F)}{n:Int}{h:Hd F}(hi:isT cov l n h=false):∃g∈l,g.fr≠n/\iW cov g h=true:=by
 refine cO fun hno=>?_;have:isT cov l n h=true:=nV.2 (fun g hg hn=>by
  cases hh:iW cov g h with
  |false=>rfl
  |true=>exact absurd ⟨g,hg,hn,hh⟩ hno)
 rw[hi] at this;cases this
theorem Qh(P:Pre cov ok){l:List (Hd F)}{h:Hd F}(hs:Srt l)(hok:∀x∈l,ok x.f)(ho:ok h.f)(hn:∀g∈l,g.key≠h.key){n:Int}(hB:l.length<=B):Wq cov hw re (chg cov l (ins h l) n:List (Ms F E)) (rl (told cov l n)) (hw+B):=by
 by_cases hf:h.fr=n
 ·rw[<-hf,oC hs hn];trivial
 ·rw[Ee hs hn hf];have hwl:(woT cov l n h).length<=B:=aA (aX _ _) hB;cases hi:isT cov l n h with
  |false=>obtain⟨g,hg,hgn,hgh⟩:=Tj hi;rw[(xN P hok ho hg hgn hgh).1];trivial
  |true=>
   refine Wq.append (n:=hw) ?_ ((Vl (h:=h) (hs.filter _) ?_ (fun x hx=>?_)).mono hwl)
   ·exact⟨hw,0,by omega,trivial,Or.inr lZ⟩
   ·exact Or.inl ⟨rfl,rfl⟩
   ·obtain⟨h1,h2⟩:=uV.1 hx;have h3:=hn x ((iJ cov).1 h1).1;exact⟨Or.inr ⟨h3,x,h1,rfl,rfl⟩,h3,h2⟩
theorem Qi(P:Pre cov ok){l:List (Hd F)}{h:Hd F}(hs:Srt l)(hok:∀x∈l,ok x.f)(hm:h∈l){n:Int}(hB:l.length<=B):Wq cov hw re (chg cov l (del h.key l) n:List (Ms F E)) (rl (told cov l n)) (hw+B):=by
 by_cases hf:h.fr=n
 ·rw[<-hf,oD hs hm];trivial
 ·rw[Ef hs hm hf];have hwl:(woT cov (del h.key l) n h).length<=B:=aA (aX _ _) (aA (aX _ _) hB);cases hi:isT cov (del h.key l) n h with
  |false=>obtain⟨g,hg,hgn,hgh⟩:=Tj hi;rw[(xN P (fun x hx=>hok x (jO.1 hx).1) (hok h hm) hg hgn hgh).1];trivial
  |true=>
   have ht:h∈told cov l n:=by
    refine(iJ cov).2 ⟨hm,hf,fun g hg hgn=>?_⟩;by_cases e:g.key=h.key
    ·rw[hs.uniq hg hm e];exact sY h
    ·exact nV.1 hi g (jO.2 ⟨hg,e⟩) hgn
   rw[Nat.add_comm];refine Wq.append (n:=B) ((Vm (h:=h) ⟨h,ht,rfl,rfl⟩ (fun x hx=>?_)).mono hwl) ?_
   ·obtain⟨h1,h2⟩:=uV.1 hx;exact⟨Ae x ((iJ cov).1 h1).1,h2⟩
   ·exact⟨hw,0,by omega,trivial,Or.inr lZ⟩
def hwt(rank:Nat->Nat->Nat)(B a b:Nat):Nat:=rank b a*(B+1)-B
theorem tP{a b:Nat}(h:1<=rank b a):hwt rank B a b+B=rank b a*(B+1):=by have:1*(B+1)<=rank b a*(B+1):=bJ _ h;unfold hwt;omega
structure Wt(cov:F->F->Bool)(rank:Nat->Nat->Nat)(nb B:Nat)(g:Nat->Nat->Nat)(s:TS F E)(n:Nat):Prop where
 q:∀a b,Wq cov (hwt rank B a b) (rank b a) (s.q a b) (hfr (s.held b) a) (g a b)
 s:sm nb (fun a=>sm nb fun b=>g a b)<=n
def Wgt(cov:F->F->Bool)(rank:Nat->Nat->Nat)(nb B:Nat)(s:TS F E)(n:Nat):Prop:=∃g,Wt cov rank nb B g s n
theorem Wgt.mono{nb:Nat}{s:TS F E}{n:Nat}(h:Wgt cov rank nb B s n)(hn:n<=n'):Wgt cov rank nb B s n':=by obtain⟨g,h1,h2⟩:=h;exact⟨g,h1,aA h2 hn⟩
theorem Ql{nb:Nat}:Wgt cov rank nb B (TS.none F E) 0:=⟨fun _ _=>0,fun _ _=>trivial,by simp only[mY];exact lZ⟩
theorem Zg{nb a b:Nat}{f:Nat->Nat->Nat}(ha:a<nb)(hb:b<nb):f a b<=sm nb (fun a=>sm nb fun b=>f a b):=by
 have h1:=oJ nb (f:=fun y=>if y=b then f a b else 0) (g:=fun y=>f a y) (fun y _=>by
  split
  ·rename_i e;rw[e];exact lZ
  ·exact zZ)
 rw[mG,if_pos hb] at h1;have h2:=oJ nb (f:=fun x=>if x=a then f a b else 0) (g:=fun x=>sm nb fun y=>f x y) (fun x _=>by
  split
  ·rename_i e;rw[e];exact h1
  ·exact zZ)
 rw[mG,if_pos ha] at h2;exact h2
theorem Wgt.len{nb:Nat}(S:Rs nb adj rank)(hb:∀a b,adj a b=true->a<nb/\b<nb){s:TS F E}(nq:∀a b,adj a b=false->s.q a b=[]){n:Nat}(h:Wgt cov rank nb B s n)(a b:Nat):(s.q a b).length<=n:=by
 obtain⟨g,h1,h2⟩:=h;cases hab:adj a b with
 |false=>rw[nq a b hab];simp
 |true=>
  have hr:=S.sum a b hab;have hr1:1<=rank b a:=by omega
  have he:=tP (B:=B) hr1;have hm:1*(B+1)<=rank b a*(B+1):=bJ _ hr1;have:=Wq.len (by omega) hr1 (h1 a b);have:=Zg (f:=g) (hb a b hab).1 (hb a b hab).2;omega
theorem uF{nb a b:Nat}{g g' add:Nat->Nat->Nat}(ha:a<nb)(hb:b<nb)(h:∀x y,g' x y+(if x=a then(if y=b then c else 0) else 0)<=g x y+add x y):sm nb (fun x=>sm nb fun y=>g' x y)+c<=sm nb (fun x=>sm nb fun y=>g x y)+sm nb (fun x=>sm nb fun y=>add x y):=by
 have row:∀x,sm nb (fun y=>g' x y)+(if x=a then c else 0)<=sm nb (fun y=>g x y)+sm nb (fun y=>add x y):=by
  intro x;have h1:=oJ nb (fun y _=>h x y);rw[mS,mS] at h1;by_cases hx:x=a
  ·simp only[if_pos hx] at h1 ⊢;rw[mG,if_pos hb] at h1;exact h1
  ·simp only[if_neg hx,mY] at h1 ⊢;exact h1
 have h2:=oJ nb (fun x _=>row x);rw[mS,mS,mG,if_pos ha] at h2;exact h2
theorem xP{nb b:Nat}{f:Nat->Nat}(hb:b<nb):sm nb (fun x=>sm nb fun y=>if x=b then f y else 0)=sm nb f:=by
 have:(sm nb fun x=>sm nb fun y=>if x=b then f y else 0)=sm nb fun x=>if x=b then sm nb f else 0:=mH nb (fun x _=>by
  by_cases hx:x=b
  ·simp only[if_pos hx]
  ·simp only[if_neg hx,mY])
 rw[this,mG,if_pos hb]
theorem Db{x b y a g r k:Nat}{A:Bool}:(if x=b/\A=true then g+r*k else g)+(if x=a then(if y=c then 0 else 0) else 0)<=g+(if x=b then(if A=true then r else 0)*k else 0):=by
 have h0:(if x=a then(if y=c then 0 else 0) else 0)=0:=by split<;>(try split)<;>rfl
 rw[h0];by_cases hx:x=b
 ·cases A with
  |true=>simp[hx]
  |false=>simp
 ·simp[hx]
theorem Vy(P:Pre cov ok){nb:Nat}(S:Rs nb adj rank){s:TS F E}(I:Inv cov adj nxt home ok s){n:Nat}(h:Wgt cov rank nb B s n)(k:Ky)(f:F)(hf:ok f)(hb:home k.1<nb)(hn:∀g∈s.held (home k.1),g.key≠k)(hB:(s.held (home k.1)).length<=B):Wgt cov rank nb B (s.turn cov adj (home k.1) (ins ⟨k,f, -1⟩ (s.held (home k.1)))) (n+nb*(B+1)):=by
 obtain⟨g,h1,h2⟩:=h;refine⟨fun x y=>if x=home k.1/\adj (home k.1) y=true then g x y+rank y (home k.1)*(B+1) else g x y,fun x y=>?_,?_⟩
 ·have hh:hfr ((s.turn cov adj (home k.1) (ins ⟨k,f, -1⟩ (s.held (home k.1)))).held y) x=hfr (s.held y) x:=by
   show hfr (if y=home k.1 then _ else _) x=_;by_cases hy:y=home k.1
   ·rw[if_pos hy,hy];exact kK (by show(-1:Int)≠x;omega) (fun g hg e=>absurd e (hn g hg))
   ·rw[if_neg hy]
  rw[hh];show Wq cov _ _ (if x=home k.1/\adj (home k.1) y=true then _ else _) _ _;by_cases hx:x=home k.1/\adj (home k.1) y=true
  ·rw[if_pos hx,if_pos hx];obtain⟨rfl,hadj⟩:=hx;(have hr:1<=rank y (home k.1):=by have:=S.sum _ _ hadj;omega);refine(h1 (home k.1) y).append ?_;rw[I.ag _ y hadj,<-tP hr];exact Qh P (I.srt _) (I.hok _) hf hn hB
  ·rw[if_neg hx,if_neg hx];exact h1 x y
 ·have h3:=uF (c:=0) (g:=g) (g':=fun x y=>if x=home k.1/\adj (home k.1) y=true then g x y+rank y (home k.1)*(B+1) else g x y) (add:=fun x y=>if x=home k.1 then(if adj (home k.1) y=true then rank y (home k.1) else 0)*(B+1) else 0) hb hb (fun x y=>Db);rw[xP hb,yN] at h3;have h4:=S.tot _ hb;have h5:=bJ (B+1) (show sm nb (fun y=>if adj (home k.1) y=true then rank y (home k.1) else 0)<=nb by omega);show sm nb (fun x=>sm nb fun y=>if x=home k.1/\adj (home k.1) y=true then g x y+rank y (home k.1)*(B+1) else g x y)<=_;omega
theorem Vt(P:Pre cov ok)(N:Nx adj nxt){nb:Nat}(S:Rs nb adj rank){s:TS F E}(I:Inv cov adj nxt home ok s){n:Nat}(h:Wgt cov rank nb B s n){x0:Hd F}(hb:home x0.key.1<nb)(hm:x0∈s.held (home x0.key.1))(hB:(s.held (home x0.key.1)).length<=B):Wgt cov rank nb B (s.turn cov adj (home x0.key.1) (del x0.key (s.held (home x0.key.1)))) (n+nb*(B+1)):=by
 obtain⟨g,h1,h2⟩:=h;have hoth:∀a:Nat,∀g∈s.held (home x0.key.1),g.key=x0.key->g.fr≠(a:Int):=by intro a g hg e;rw[I.rt _ g hg,e,N.self];omega
 refine⟨fun x y=>if x=home x0.key.1/\adj (home x0.key.1) y=true then g x y+rank y (home x0.key.1)*(B+1) else g x y,fun x y=>?_,?_⟩
 ·have hh:hfr ((s.turn cov adj (home x0.key.1) (del x0.key (s.held (home x0.key.1)))).held y) x=hfr (s.held y) x:=by
   show hfr (if y=home x0.key.1 then _ else _) x=_;by_cases hy:y=home x0.key.1
   ·rw[if_pos hy,hy];exact kL (hoth x)
   ·rw[if_neg hy]
  rw[hh];show Wq cov _ _ (if x=home x0.key.1/\adj (home x0.key.1) y=true then _ else _) _ _;by_cases hx:x=home x0.key.1/\adj (home x0.key.1) y=true
  ·rw[if_pos hx,if_pos hx];obtain⟨rfl,hadj⟩:=hx;(have hr:1<=rank y (home x0.key.1):=by have:=S.sum _ _ hadj;omega);refine(h1 (home x0.key.1) y).append ?_;rw[I.ag _ y hadj,<-tP hr];exact Qi P (I.srt _) (I.hok _) hm hB
  ·rw[if_neg hx,if_neg hx];exact h1 x y
 ·have h3:=uF (c:=0) (g:=g) (g':=fun x y=>if x=home x0.key.1/\adj (home x0.key.1) y=true then g x y+rank y (home x0.key.1)*(B+1) else g x y) (add:=fun x y=>if x=home x0.key.1 then(if adj (home x0.key.1) y=true then rank y (home x0.key.1) else 0)*(B+1) else 0) hb hb (fun x y=>Db);rw[xP hb,yN] at h3;have h4:=S.tot _ hb;have h5:=bJ (B+1) (show sm nb (fun y=>if adj (home x0.key.1) y=true then rank y (home x0.key.1) else 0)<=nb by omega);show sm nb (fun x=>sm nb fun y=>if x=home x0.key.1/\adj (home x0.key.1) y=true then g x y+rank y (home x0.key.1)*(B+1) else g x y)<=_;omega
end
section
variable {F E:Type}
variable {cov:F->F->Bool}{adj:Nat->Nat->Bool}{nxt:Nat->Nat->Int}{home:Int->Nat}{ok:F->Prop}{rank:Nat->Nat->Nat}
theorem Ot(P:Pre cov ok){s:TS F E}(I:Inv cov adj nxt home ok s){a b:Nat}(ha:adj a b=true){k:Ky}{f:F}{r:List (Ms F E)}(hq:s.q a b=.sub k f::r)(hl:lgt cov (hfr (s.held b) a) (.sub k f:Ms F E))(n:Int):(chg cov (s.held b) (ins ⟨k,f,a⟩ (s.held b)) n:List (Ms F E))=[]:=by
 have hno:=vE I ha hq;have hok:=(I.qs a b k f (by rw[hq];simp)).2;by_cases hf:(a:Int)=n
 ·rw[<-hf];exact oC (h:=(⟨k,f,a⟩:Hd F)) (I.srt b) hno
 ·obtain⟨k',f',⟨g,hg,hgf,rfl,rfl⟩,hh⟩:=hl;rw[Ee (h:=(⟨k,f,a⟩:Hd F)) (I.srt b) hno hf];have:=xN P (n:=n) (h:=(⟨k,f,a⟩:Hd F)) (I.hok b) hok hg (by rw[hgf];exact hf) hh;rw[this.1,this.2];rfl
theorem Jp(P:Pre cov ok){s:TS F E}(I:Inv cov adj nxt home ok s){a b:Nat}{x:Hd F}(hx:x∈s.held b)(hl:lgt cov (hfr (s.held b) a) (.uns x.key:Ms F E))(hxa:x.fr=(a:Int))(n:Int):(chg cov (s.held b) (del x.key (s.held b)) n:List (Ms F E))=[]:=by
 by_cases hf:(a:Int)=n
 ·rw[<-hf,<-hxa];exact oD (I.srt b) hx
 ·obtain⟨f,k',f',⟨y,hy,_,hyk,rfl⟩,⟨g,hg,hgf,rfl,rfl⟩,hh⟩:=hl;have e:=(I.srt b).uniq hy hx hyk;subst e;have hne:g.key≠y.key:=fun e=>by rw[(I.srt b).uniq hg hy e] at hh;have:=sY (cov:=cov) y;rw[show iW cov ⟨y.key,y.f,0⟩ ⟨y.key,y.f,0⟩=iW cov y y from rfl,this] at hh;cases hh
  rw[Ef (I.srt b) hy (by rw[hxa];exact hf)];have:=xN P (n:=n) (h:=y) (l:=del y.key (s.held b)) (fun z hz=>I.hok b z (jO.1 hz).1) (I.hok b y hy) (jO.2 ⟨hg,hne⟩) (by rw[hgf];exact hf) hh;rw[this.1,this.2];rfl
theorem Ra(P:Pre cov ok)(N:Nx adj nxt){mt:E->F->Bool}{nb:Nat}(S:Rs nb adj rank)(hb:∀a b,adj a b=true->a<nb/\b<nb){s:TS F E}(I:Inv cov adj nxt home ok s)(hB:∀b,(s.held b).length<=B){n:Nat}(h:Wgt cov rank nb B s n){a b:Nat}(ha:adj a b=true){m:Ms F E}{r:List (Ms F E)}(hq:s.q a b=m::r):∃n',n'<n/\Wgt cov rank nb B (s.nstep cov adj mt a b m) n':=by
 obtain⟨g,h1,h2⟩:=h;have hab:=hb a b ha;have hne:a≠b:=fun e=>by rw[e,N.irr] at ha;cases ha
 have hrs:=S.sum a b ha;have h3:=h1 a b;rw[hq] at h3;obtain⟨c,n0,h4,h5,h6⟩:=h3;have mO:∀x y,(s.pop a b).q x y=if x=a/\y=b then(s.q x y).tail else s.q x y:=fun _ _=>rfl;have key:∀add:Nat->Nat,sm nb add+1<=c ->(∀(x:Nat)(z:Int),hfr ((s.nstep cov adj mt a b m).held x) z=if x=b/\z=(a:Int) then ap1 m (hfr (s.held b) a) else hfr (s.held x) z) ->(∀y,adj b y=true->∃l,(s.nstep cov adj mt a b m).q b y=s.q b y++l/\Wq cov (hwt rank B b y) (rank y b) l (rl (told cov (s.held b) y)) (add y)) ->(∀x y,¬(x=b/\adj b y=true)->(s.nstep cov adj mt a b m).q x y=(s.pop a b).q x y)->∃n',n'<n/\Wgt cov rank nb B (s.nstep cov adj mt a b m) n':=by
  intro add hadd hheld hqb hqo;have hsum:=uF (c:=c) (g:=g) (g':=fun x y=>if x=a/\y=b then n0 else if x=b then g x y+add y else g x y) (add:=fun x y=>if x=b then add y else 0) hab.1 hab.2 (fun x y=>by
   by_cases hx:x=a
   ·have hxb:¬x=b:=fun e=>hne (hx▸e);by_cases hy:y=b
    ·subst hx hy;simp only[and_self,if_true,if_neg hxb];omega
    ·simp only[hx,hy,and_false,if_true,if_false,if_neg hne];omega
   ·simp only[hx,false_and,if_false];by_cases hxb:x=b
    ·simp only[if_pos hxb];omega
    ·simp only[if_neg hxb];omega)
  rw[xP hab.2] at hsum;refine⟨sm nb (fun x=>sm nb fun y=>if x=a/\y=b then n0 else if x=b then g x y+add y else g x y),by omega,_,fun x y=>?_,lZ⟩;rw[hheld y x];by_cases hxy:x=a/\y=b
  ·obtain⟨rfl,rfl⟩:=hxy;rw[if_pos ⟨rfl,rfl⟩,hqo x y (fun e=>hne e.1),mO,if_pos ⟨rfl,rfl⟩,hq,if_pos ⟨rfl,rfl⟩];exact h5
  ·rw[if_neg (c:=x=a/\y=b) hxy,if_neg (fun e=>hxy ⟨by omega,e.1⟩)];by_cases hxb:x=b/\adj b y=true
   ·obtain⟨rfl,hadj⟩:=hxb;obtain⟨l,e1,e2⟩:=hqb y hadj;rw[if_pos rfl,e1];refine(h1 x y).append ?_;rw[I.ag x y hadj];exact e2
   ·rw[hqo x y hxb,mO,if_neg hxy];refine(h1 x y).mono ?_;split<;>omega
 have noa:∀x:Nat,x≠a->(x:Int)≠(a:Int):=fun x h=>by omega
 cases m with
 |ev e=>
  have hc:rank b a<=c:=by
   rcases h6 with h6|h6
   ·exact h6.1.elim
   ·exact h6
  refine key (fun y=>if adj b y=true/\y≠a then rank y b else 0) (by omega) (fun x z=>?_) (fun y hadj=>?_) (fun x y hxy=>?_)
  ·show hfr (s.held x) z=_;split
   ·rename_i h;rw[h.1,h.2];rfl
   ·rfl
  ·show ∃l,(if b=b/\adj b y=true/\(y:Int)≠(a:Int)/\_ then(s.pop a b).q b y++[.ev e] else(s.pop a b).q b y)=_/\_;(have ep:(s.pop a b).q b y=s.q b y:=by rw[mO,if_neg (fun h=>hne h.1.symm)]);rw[ep];split
   ·rename_i h;refine⟨[.ev e],rfl,rank y b,0,?_,trivial,Or.inr lZ⟩;rw[if_pos ⟨hadj,fun e=>h.2.2.1 (by rw[e])⟩];exact lZ
   ·exact⟨[],(aZ _).symm,trivial⟩
  ·show(if x=b/\adj b y=true/\_ then _ else _)=_;rw[if_neg (fun h=>hxy ⟨h.1,h.2.1⟩)]
 |sub k f=>
  have hno:=vE I ha hq;have hok:=(I.qs a b k f (by rw[hq];simp)).2;have hheld:∀(x:Nat)(z:Int),hfr ((s.nstep cov adj mt a b (.sub k f)).held x) z=if x=b/\z=(a:Int) then ap1 (.sub k f:Ms F E) (hfr (s.held b) a) else hfr (s.held x) z:=by
   intro x z;show hfr (if x=b then ins ⟨k,f,a⟩ (s.held b) else s.held x) z=_;by_cases hx:x=b
   ·rw[if_pos hx];by_cases hz:z=(a:Int)
    ·rw[if_pos ⟨hx,hz⟩,hz];exact Dy (E:=E) (h:=(⟨k,f,a⟩:Hd F)) (l:=s.held b)
    ·rw[if_neg (fun e=>hz e.2),hx];exact kK (fun e=>hz e.symm) (fun g hg e=>absurd e (hno g hg))
   ·rw[if_neg hx,if_neg (fun e=>hx e.1)]
  have hqb:∀y,adj b y=true->(s.nstep cov adj mt a b (.sub k f)).q b y=s.q b y++chg cov (s.held b) (ins ⟨k,f,a⟩ (s.held b)) y:=by intro y hadj;show(if b=b/\adj b y=true then(s.pop a b).q b y++_ else _)=_;rw[if_pos ⟨rfl,hadj⟩,mO,if_neg (fun h=>hne h.1.symm)];rfl
  have hqo:∀x y,¬(x=b/\adj b y=true)->(s.nstep cov adj mt a b (.sub k f)).q x y=(s.pop a b).q x y:=by intro x y hxy;show(if x=b/\adj b y=true then _ else _)=_;rw[if_neg hxy]
  rcases h6 with h6|h6
  ·refine key (fun _=>0) (by rw[mY];omega) hheld (fun y hadj=>⟨[],?_,trivial⟩) hqo;rw[hqb y hadj,Ot P I ha hq h6.1]
  ·have hc:hwt rank B a b<=c:=h6;have he:=tP (B:=B) (rank:=rank) (a:=a) (b:=b) (by omega);have hm:=bJ (B+1) hrs;rw[eB,Nat.one_mul,<-yN] at hm;refine key (fun y=>(if adj b y=true/\y≠a then rank y b else 0)*(B+1)) (by omega) hheld (fun y hadj=>⟨_,hqb y hadj,?_⟩) hqo;by_cases hya:y=a
   ·(have e0:(chg cov (s.held b) (ins ⟨k,f,a⟩ (s.held b)) y:List (Ms F E))=[]:=by rw[hya];exact oC (h:=(⟨k,f,a⟩:Hd F)) (I.srt b) hno);rw[e0];trivial
   ·(have hr:1<=rank y b:=by have:=S.sum _ _ hadj;omega);rw[if_pos ⟨hadj,hya⟩,<-tP hr];exact Qh P (I.srt b) (I.hok b) hok hno (hB b)
 |uns k=>
  obtain⟨x0,hx0,rfl⟩:=Gt I ha hq;have hside:x0.fr=(a:Int):=by rw[I.rt b x0 hx0];exact I.qu a b x0.key (by rw[hq];simp)
  have hheld:∀(x:Nat)(z:Int),hfr ((s.nstep cov adj mt a b (.uns x0.key)).held x) z=if x=b/\z=(a:Int) then ap1 (.uns x0.key:Ms F E) (hfr (s.held b) a) else hfr (s.held x) z:=by
   intro x z;show hfr (if x=b then del x0.key (s.held b) else s.held x) z=_;by_cases hx:x=b
   ·rw[if_pos hx];by_cases hz:z=(a:Int)
    ·rw[if_pos ⟨hx,hz⟩,hz];exact Dz (E:=E)
    ·rw[if_neg (fun e=>hz e.2),hx];exact kL (fun g hg e=>by rw[(I.srt b).uniq hg hx0 e,hside];exact fun e=>hz e.symm)
   ·rw[if_neg hx,if_neg (fun e=>hx e.1)]
  have hqb:∀y,adj b y=true->(s.nstep cov adj mt a b (.uns x0.key)).q b y=s.q b y++chg cov (s.held b) (del x0.key (s.held b)) y:=by intro y hadj;show(if b=b/\adj b y=true then(s.pop a b).q b y++_ else _)=_;rw[if_pos ⟨rfl,hadj⟩,mO,if_neg (fun h=>hne h.1.symm)];rfl
  have hqo:∀x y,¬(x=b/\adj b y=true)->(s.nstep cov adj mt a b (.uns x0.key)).q x y=(s.pop a b).q x y:=by intro x y hxy;show(if x=b/\adj b y=true then _ else _)=_;rw[if_neg hxy]
  rcases h6 with h6|h6
  ·refine key (fun _=>0) (by rw[mY];omega) hheld (fun y hadj=>⟨[],?_,trivial⟩) hqo;rw[hqb y hadj,Jp P I hx0 h6.1 hside]
  ·have hc:hwt rank B a b<=c:=h6;have he:=tP (B:=B) (rank:=rank) (a:=a) (b:=b) (by omega);have hm:=bJ (B+1) hrs;rw[eB,Nat.one_mul,<-yN] at hm;refine key (fun y=>(if adj b y=true/\y≠a then rank y b else 0)*(B+1)) (by omega) hheld (fun y hadj=>⟨_,hqb y hadj,?_⟩) hqo;by_cases hya:y=a
   ·(have e0:(chg cov (s.held b) (del x0.key (s.held b)) y:List (Ms F E))=[]:=by rw[hya,<-hside];exact oD (I.srt b) hx0);rw[e0];trivial
   ·(have hr:1<=rank y b:=by have:=S.sum _ _ hadj;omega);rw[if_pos ⟨hadj,hya⟩,<-tP hr];exact Qi P (I.srt b) (I.hok b) hx0 (hB b)
end
open Go.RowKit
structure Sh(T:Tc)(nxt:Nat->Nat->Int)(rank:Nat->Nat->Nat):Prop where
 N:Nx T.adj nxt
 Z:Nz T.nb T.adj nxt
 R:Rk T.adj nxt rank
 le:∀a b,rank a b<=T.nb
 S:Rs T.nb T.adj rank
theorem Ps(nb:Nat)(nxt:Nat->Nat->Int)(a b:Nat):pV nb nxt a b<=nb:=by have:=oJ (f:=fun t=>if nxt b t=(a:Int) then 1 else 0) (g:=fun _=>1) nb (fun i _=>by split<;>omega);rw[nF,Nat.mul_one] at this;exact this
theorem qH:∀(L:List Ky)(j:Nat),j<L.length->(hG L)[j*2]?=some (.int .i64 (eat L j).1)/\(hG L)[j*2+1]?=some (.int .i64 (eat L j).2)
 |[],j,h=>by simp at h
 |x::l,0,_=>by simp[hG,rE,eat]
 |x::l,j+1,h=>by
  have ih:=qH l j (by simpa using h);have e:∀k,(hG (x::l))[(j+1)*2+k]?=(hG l)[j*2+k]?:=fun k=>by
   (have:(j+1)*2+k=(j*2+k)+2:=by omega);rw[this];simp[hG,rE,List.getElem?_cons_succ]
  have hh:eat (x::l) (j+1)=eat l j:=by simp[eat]
  rw[hh];exact⟨(e 0).trans ih.1,(e 1).trans ih.2⟩
theorem Fr.gr0{r:Nat->Rl}(h:Fr (fun _=>.no) r w w'):Gr w w':=⟨h.os,h.tape,h.output,h.size,fun k hk=>h.keep k hk (Or.inl rfl)⟩
theorem oF{α:Type}(p:α->Bool)(l:List α)(k:Nat)(d:α)(h:k<l.length):(l.take (k+1)).any p=((l.take k).any p||p (l.getD k d)):=by rw[aW h,List.any_append];simp[List.getD_eq_getElem?_getD,List.getElem?_eq_getElem h]
def jM(w:World)(ad:Option Addr)(cs:List Value):Prop:=cs=[]\/∃b off,ad=some ⟨b,off,none⟩/\b<w.heap.size/\∀i v,cs[i]?=some v->w.cell? ⟨b,off+i,none⟩=some v
theorem jM.gr{ad:Option Addr}{cs:List Value}(h:jM w ad cs)(g:Gr w w'):jM w' ad cs:=by
 rcases h with h|⟨b,off,h1,h2,h3⟩
 ·exact Or.inl h
 ·exact Or.inr ⟨b,off,h1,aF h2 g.size,fun i v hi=>by rw[(gP g).1 b _ h2];exact h3 i v hi⟩
theorem Ci{K:List Ky}(h:j<K.length):hG K≠[]:=by
 cases K with
 |nil=>cases h
 |cons a t=>simp[hG,rE]
theorem Pb{K:List Hm}(h:j<K.length):hH K≠[]:=by
 cases K with
 |nil=>cases h
 |cons a t=>simp[hH,lA]
theorem jM.key{ad:Option Addr}{K:List Ky}(h:jM w ad (hG K))(hj:j<K.length):∃b off,ad=some ⟨b,off,none⟩/\b<w.heap.size/\w.cell? ⟨b,off+j*2,none⟩=some (.int .i64 (eat K j).1)/\w.cell? ⟨b,off+j*2+1,none⟩=some (.int .i64 (eat K j).2):=by
 rcases h with h|⟨b,off,h1,h2,h3⟩
 ·exact absurd h (Ci hj)
 ·obtain⟨c0,c1⟩:=qH K j hj;exact⟨b,off,h1,h2,h3 _ _ c0,by have:=h3 _ _ c1;rwa[<-dH] at this⟩
theorem jM.hold{ad:Option Addr}{K:List Hm}(h:jM w ad (hH K))(hj:j<K.length):∃b off,ad=some ⟨b,off,none⟩/\b<w.heap.size/\w.cell? ⟨b,off+j*4,none⟩=some (.int .i64 (hat K j).1.key.1)/\w.cell? ⟨b,off+j*4+1,none⟩=some (.int .i64 (hat K j).1.key.2)/\w.cell? ⟨b,off+j*4+1+1,none⟩=some (.slice (hat K j).2.1 (hat K j).1.f.length (hat K j).2.2)/\w.cell? ⟨b,off+j*4+1+1+1,none⟩=some (.int .i64 (hat K j).1.fr):=by
 rcases h with h|⟨b,off,h1,h2,h3⟩
 ·exact absurd h (Pb hj)
 ·obtain⟨c0,c1,c2,c3⟩:=qJ K j hj;have d0:=h3 _ _ c0;have d1:=h3 _ _ c1;have d2:=h3 _ _ c2;have d3:=h3 _ _ c3;simp only[<-dH] at d0 d1 d2 d3;exact⟨b,off,h1,h2,d0,d1,d2,d3⟩
theorem wL(a b:Ky)(w:World):Calls prog 78 #[.agg #[.int .i64 a.1,.int .i64 a.2],.agg #[.int .i64 b.1,.int .i64 b.2]] w fun e w'=>e=.returned (.bool (klt a b))/\Gr w w':=by
 have EH:Hid (klt a b=(decide (a.1<b.1)||(decide (a.1=b.1)&&decide (a.2<b.2)))):=rfl;generalize klt a b=r at *;obtain⟨a1,a2⟩:=a;obtain⟨b1,b2⟩:=b;by_cases h1:a1<b1
 ·obtain rfl:r=true:=by rw[EH.out];simp[h1]
  go_enter func78,ntmps78;go_wp2_with fail;go_ret;exact⟨rfl,(gZ.alloc _).alloc _⟩
 by_cases h2:a1=b1
 ·subst h2;obtain rfl:r=decide (a2<b2):=by rw[EH.out];simp
  go_enter func78,ntmps78;go_wp2_with fail;go_ret;exact⟨rfl,(gZ.alloc _).alloc _⟩
 ·obtain rfl:r=false:=by rw[EH.out];simp[h1,h2]
  have h3:(a1==b1)=false:=by simp[h2]
  go_enter func78,ntmps78;go_wp2_with fail;go_ret;exact⟨rfl,(gZ.alloc _).alloc _⟩
theorem Cr(k:Ky)(K:List Ky)(ad:Option Addr)(cap:Nat)(w:World)(hl:K.length<=maxLen)(h:jM w ad (hG K)):Calls prog 80 #[.agg #[.int .i64 k.1,.int .i64 k.2],.slice ad K.length cap] w fun e w'=>e=.returned (.bool (K.any fun x=>x==k))/\Gr w w':=by
 have HK:=hZ h;unfold maxLen at hl;clear h;obtain⟨k1,k2⟩:=k;go_enter func80,ntmps80;go_wp2_with fail;have G0:=hZ ((Gr.refl w).alloc (.cells #[.int .i64 k1,.int .i64 k2] 133));have P0:=hZ (fY w (.cells #[.int .i64 k1,.int .i64 k2] 133));generalize w.alloc (.cells #[.int .i64 k1,.int .i64 k2] 133)=w1 at *;go_loopw [5] (fun i wr=>∃q:Nat,q<=K.length/\i=.int .i64 q/\Hid (Gr w1 wr)/\Hid ((K.take q).any (fun x=>x==(k1,k2))=false)) (fun i _=>K.length-(intOf i).toNat);case atStart=>exact⟨0,zZ,rfl,gZ,by simp[Hid]⟩
 case round=>
  obtain⟨q,hq,rfl,G,HN⟩:=hrel;have P1:=hZ (gK G.out P0.out);have p0:wr.cell? ⟨w.heap.size,0,none⟩=some (.int .i64 k1):=by rw[cZ P1.out];rfl
  have p1:wr.cell? ⟨w.heap.size,1,none⟩=some (.int .i64 k2):=by rw[cZ P1.out];rfl
  by_cases hql:q<K.length
  ·obtain⟨b,off,rfl,hb,c0,c1⟩:=(HK.gr (Gr.call G0.out G.out)).key hql;(have HS:Hid ((K.take (q+1)).any (fun x=>x==(k1,k2))=(eat K q==(k1,k2))):=by show _=_;rw[oF _ K q (0,0) hql,HN.out,fA];rfl);have HT:Hid ((eat K q==(k1,k2))=true->K.any (fun x=>x==(k1,k2))=true):=fun h=>bT.2 ⟨_,xZ hql,h⟩;generalize eat K q=z at *;obtain⟨z1,z2⟩:=z;by_cases e1:z1=k1
   ·by_cases e2:z2=k2
    ·subst e1 e2;have HR:=hZ (HT (by simp));go_wp2_with fail;go_quiet(fail);have G2:=hZ (Gr.call G0.out (G.drewN nq));clear c0 c1 p0 p1;go_wp2_with fail;go_ret;exact⟨gG (by rw[HR.out]),G2.out⟩
    ·(have HR:Hid (((z1,z2)==(k1,k2))=false):=by show _=_;simp[e2]);have e3:(z2==k2)=false:=by simp[e2]
     go_wp2_with fail;go_quiet(fail);have G2:=hZ (G.drewN nq);clear c0 c1 p0 p1;go_wp2_with fail;exact⟨⟨q+1,hql,by simp,G2,HS.trans HR.out⟩,gD _ _ hql⟩
   ·(have HR:Hid (((z1,z2)==(k1,k2))=false):=by show _=_;simp[e1]);have e3:(z1==k1)=false:=by simp[e1]
    go_wp2_with fail;go_quiet(fail);have G2:=hZ (G.drewN nq);clear c0 c1 p0 p1;go_wp2_with fail;exact⟨⟨q+1,hql,by simp,G2,HS.trans HR.out⟩,gD _ _ hql⟩
  ·(have hqe:q=K.length:=by omega);subst hqe;have HR:Hid (K.any (fun x=>x==(k1,k2))=false):=by have:=HN.out;rwa[bB] at this
   have G2:=hZ (Gr.call G0.out G.out);go_wp2_with fail;go_ret;exact⟨gG (by rw[HR.out]),G2.out⟩
theorem Kh(s:ByteArray)(i:Int)(t:ByteArray)(w:World)(hs:s.size<=64)(ht:t.size<=64)(h1:-64<=i)(h2:i<=64):Calls prog 109 #[.string s,.int .i64 i,.string t] w fun e w'=>e=.returned (.bool (atB s i t))/\w'=w:=by
 by_cases h0:i<0
 ·go_enter func109,ntmps109;go_wp2;go_ret;exact⟨gG (Ej s i t (Or.inl h0)).symm,rfl⟩
 ·obtain⟨j,rfl⟩:=Int.eq_ofNat_of_zero_le (Int.not_lt.1 h0);by_cases hj:j+t.size<=s.size
  ·go_enter func109,ntmps109;go_wp2;go_ret;exact⟨gG (Km s j t hj).symm,rfl⟩
  ·(have hj':(s.size:Int)<(j:Int)+t.size:=by omega);go_enter func109,ntmps109;go_wp2;go_ret;exact⟨gG (Ej s j t (Or.inr hj')).symm,rfl⟩
theorem Qf(a:ByteArray)(k n:Int)(s:ByteArray)(n':Int)(s':ByteArray)(w:World)(hs:s.size<=64)(hs':s'.size<=33):Calls prog 100 #[.agg #[.string a,.int .i64 10,.int .i64 k,.int .i64 n,.string s],.agg #[.int .i64 k,.int .i64 n',.string s']] w fun e w'=>e=.returned (.bool (gT 10 k n s k n' s'))/\Gr w w':=by
 go_enter func100,ntmps100;go_wp2;go_loop [5] (fun i=>∃j:Nat,j<=s'.size+1/\i=.int .i64 j/\Hid (∀q:Nat,q<j->atB s' (q:Int) s=false)) (fun i=>s'.size+1-(intOf i).toNat);case atStart=>exact⟨0,by omega,rfl,fun q hq=>by omega⟩
 case round=>
  obtain⟨j,hj,rfl,HA⟩:=hrel;by_cases hlt:j<=s'.size
  ·(have hlt':(j:Int)<=(s'.size:Int):=by omega);cases hat:atB s' (j:Int) s
   ·go_wp2_with fail;refine(Kh _ _ _ _ (by omega) (by omega) (by omega) (by omega)).mono ?_;rw[hat];rintro e w1 ⟨rfl,rfl⟩;go_wp2_with fail;go_round;case rel=>
     refine⟨j+1,by omega,by go_num,fun q hq=>?_⟩;by_cases e:q=j
     ·rw[e];exact hat
     ·exact HA q (by omega)
    case measure=>simp[intOf];omega
   ·go_wp2_with fail;refine(Kh _ _ _ _ (by omega) (by omega) (by omega) (by omega)).mono ?_;rw[hat];rintro e w1 ⟨rfl,rfl⟩;go_wp2_with fail;go_ret;refine⟨gG ?_,(gZ.alloc _).alloc _⟩;have:=Ed s' s j hlt hat;simp[gT,this]
  ·(have hlt':¬(j:Int)<=(s'.size:Int):=by omega);go_wp2;go_ret;refine⟨gG ?_,(gZ.alloc _).alloc _⟩;have:=Hk s' s (fun q hq=>HA q (by omega));simp[gT,this]
theorem qL(a:ByteArray)(y k n:Int)(s:ByteArray)(k' n':Int)(s':ByteArray)(w:World)(hw:gV y k n s=true)(hs:s.size<=64)(hs':s'.size<=33):Calls prog 100 #[.agg #[.string a,.int .i64 y,.int .i64 k,.int .i64 n,.string s],.agg #[.int .i64 k',.int .i64 n',.string s']] w fun e w'=>e=.returned (.bool (gT y k n s k' n' s'))/\Gr w w':=by
 have Hw:Hid (gV y k n s=true):=hw;clear hw;by_cases h10:y=10/\k=k'
 ·obtain⟨rfl,rfl⟩:=h10;exact Qf a k n s n' s' w hs hs'
 rcases mR Hw.out with rfl|rfl|rfl|rfl|rfl|rfl|rfl|rfl|rfl|rfl
 ·go_enter func100,ntmps100;go_wp2;go_ret;exact⟨gG (by simp[gT]),(gZ.alloc _).alloc _⟩
 all_goals
  by_cases hk:(k' != k)=true
  ·go_enter func100,ntmps100;go_wp2;go_ret;exact⟨gG (by have h2:(k != k')=true:=(by simp at hk ⊢;exact fun e=>hk e.symm);simp[gT,h2]),(gZ.alloc _).alloc _⟩
  have hk':k'=k:=by simpa using hk
  subst hk';clear hk;try simp at h10
  try clear h10
  try(
   go_enter func100,ntmps100;go_wp2_with(go_at_call 109;refine(Kh _ _ _ _ (by omega) (by omega) (by omega) (by omega)).mono ?_;rintro e w' ⟨rfl,rfl⟩);all_goals
    go_ret;refine⟨gG ?_,(gZ.alloc _).alloc _⟩;go_light;first|(simp[gT,Kj];done)|(simp[gT,Ki];done)|(simp_all[gT];done)|(simp[gT];omega)|go_show)
theorem Tryz.infoValue:(Tryz.prog.info? 45).map (fun i=>(i.zero,i.size,i.bytes))=some (some (.agg #[.int .i64 0,.int .i64 0,.string ⟨#[]⟩]),3,32):=by kernel_rfl
theorem Nk(a:ByteArray)(y k n:Int)(s a':ByteArray)(y' k' n':Int)(s':ByteArray)(w:World)(hs:s.size<=32)(hs':s'.size<=32):Calls prog 130 #[.agg #[.string a,.int .i64 y,.int .i64 k,.int .i64 n,.string s],.agg #[.string a',.int .i64 y',.int .i64 k',.int .i64 n',.string s']] w
   fun e w'=>∃v,e=.returned v/\Gr w w'/\w'.ownsRow w.heap.size 45 3 v (gJ n s n' s').length (kC (gJ n s n' s')):=by
 obtain⟨i0,hi,hz0,hz1,hz2⟩:=info_parts Tryz.infoValue;go_enter func130,ntmps130;go_wp2;go_loopw [5,8] (fun v i wr=>∃j:Nat,j<=3/\i=.int .i64 j/\Gr w wr/\Hid (wr.heap[w.heap.size+1+1+1]?=some (.cells #[.int .i64 n,.int .i64 n',.int .i64 0] 3 (0,0)))/\Hid (wr.heap[w.heap.size+1+1+1+1]?=some (.cells #[.string ⟨#[]⟩,.string s,.string s'] 9 (0,0)))/\Hid (wr.ownsRow w.heap.size 45 3 v (TL n s n' s' j).length (kC (TL n s n' s' j)))) (fun _ i _=>3-(intOf i).toNat);case atStart=>
  refine⟨0,by omega,rfl,by repeat(first|exact gZ|apply Gr.alloc),?_,?_,?_⟩
  ·show _=_;rw[gF _ _ (by simp)];have:=fY (((w.alloc (.cells #[.string a,.int .i64 y,.int .i64 k,.int .i64 n,.string s] 47)).alloc (.cells #[.string a',.int .i64 y',.int .i64 k',.int .i64 n',.string s'] 47)).alloc (.cells #[.int .i64 3,.int .i64 0,.string ⟨#[]⟩,.int .i64 3,.int .i64 1,.string ⟨#[]⟩,.int .i64 1,.int .i64 (-9223372036854775808),.string ⟨#[]⟩,.int .i64 1,.int .i64 9223372036854775807,.string ⟨#[]⟩] 45)) (.cells #[.int .i64 n,.int .i64 n',.int .i64 0] 3);simpa using this
  ·show _=_;have:=fY ((((w.alloc (.cells #[.string a,.int .i64 y,.int .i64 k,.int .i64 n,.string s] 47)).alloc (.cells #[.string a',.int .i64 y',.int .i64 k',.int .i64 n',.string s'] 47)).alloc (.cells #[.int .i64 3,.int .i64 0,.string ⟨#[]⟩,.int .i64 3,.int .i64 1,.string ⟨#[]⟩,.int .i64 1,.int .i64 (-9223372036854775808),.string ⟨#[]⟩,.int .i64 1,.int .i64 9223372036854775807,.string ⟨#[]⟩] 45)).alloc (.cells #[.int .i64 n,.int .i64 n',.int .i64 0] 3)) (.cells #[.string ⟨#[]⟩,.string s,.string s'] 9);simpa using this
  ·have:=World.ownsRow_lit (base:=w.heap.size) (e:=45) (size:=3) ((w.alloc (.cells #[.string a,.int .i64 y,.int .i64 k,.int .i64 n,.string s] 47)).alloc (.cells #[.string a',.int .i64 y',.int .i64 k',.int .i64 n',.string s'] 47)) #[.int .i64 3,.int .i64 0,.string ⟨#[]⟩,.int .i64 3,.int .i64 1,.string ⟨#[]⟩,.int .i64 1,.int .i64 (-9223372036854775808),.string ⟨#[]⟩,.int .i64 1,.int .i64 9223372036854775807,.string ⟨#[]⟩] 4 (by simp;omega) (by unfold maxLen;omega) rfl;have h2:=(this.alloc (.cells #[.int .i64 n,.int .i64 n',.int .i64 0] 3)).alloc (.cells #[.string ⟨#[]⟩,.string s,.string s'] 9);rw[show((w.alloc (.cells #[.string a,.int .i64 y,.int .i64 k,.int .i64 n,.string s] 47)).alloc (.cells #[.string a',.int .i64 y',.int .i64 k',.int .i64 n',.string s'] 47)).heap.size=w.heap.size+1+1 by simp] at h2;exact h2
 case round=>
  obtain⟨j,hj,rfl,g,NB,TB,O⟩:=hrel;have hTL:=En n s n' s' j;by_cases hlt:j<3
  ·(have cn:wr.cell? ⟨w.heap.size+1+1+1,j,none⟩=some (.int .i64 (yH n n' j)):=by rw[cZ NB.out];(have:j=0\/j=1\/j=2:=by omega);rcases this with rfl|rfl|rfl<;>simp[yH]);go_wp2_with(at_builtin;refine wpList_append_own _ rfl _ _ 233 rfl w.heap.size 45 i0 _ 3 32 underlying233 hi hz0 hz1 hz2 rfl (by decide) _ _ _ rfl (O.alloc _) ⟨wr.heap.size,0,none⟩ 3 3 [.int .i64 1,.int .i64 (yH n n' j),.string ⟨#[]⟩,.int .i64 1,.int .i64 (wrap64 (yH n n' j+1)),.string ⟨#[]⟩,.int .i64 1,.int .i64 (wrap64 (yH n n' j-1)),.string ⟨#[]⟩] rfl rfl (World.news_of_block (fY _ _)) ?c2A ?c3A ?c4A ?c5A ?_);case c2A=>intro u hu;simp at hu;rcases hu with rfl|rfl|rfl|rfl|rfl|rfl|rfl|rfl|rfl<;>rfl
   case c3A=>unfold maxLen;omega
   case c4A=>omega
   case c5A=>have:=g.size;simp;omega
   intro va wa hownA hgrowA _;have gA:Gr w wa:=tO rfl O.out g hgrowA;have NBA:Hid (wa.heap[w.heap.size+1+1+1]?=some (.cells #[.int .i64 n,.int .i64 n',.int .i64 0] 3 (0,0))):=gU hgrowA (by rw[gF _ _ (fZ NB.out)];exact NB.out) (jF O.out NB.out (by decide));have TBA:Hid (wa.heap[w.heap.size+1+1+1+1]?=some (.cells #[.string ⟨#[]⟩,.string s,.string s'] 9 (0,0))):=gU hgrowA (by rw[gF _ _ (fZ TB.out)];exact TB.out) (jF O.out TB.out (by decide));(have OA:Hid (wa.ownsRow w.heap.size 45 3 va (T1 n s n' s' j).length (kC (T1 n s n' s' j))):=by show World.ownsRow _ _ _ _ _ _ _;rw[T1,tL,aG];exact hownA);clear hownA hgrowA;(have ct:wa.cell? ⟨w.heap.size+1+1+1+1,j,none⟩=some (.string (nM s s' j)):=by rw[cZ TBA.out];(have:j=0\/j=1\/j=2:=by omega);rcases this with rfl|rfl|rfl<;>simp[nM,gM]);clear cn;(have hx:(nM s s' j).size<=32:=by unfold nM;split;decide;split<;>assumption);have hl1:=(Vc n s n' s' j 0 hj (by omega)).1;go_wp2_with(at_builtin;refine wpList_append_own _ rfl _ _ 233 rfl w.heap.size 45 i0 _ 3 32 underlying233 hi hz0 hz1 hz2 rfl (by decide) _ _ _ rfl (OA.alloc _) ⟨wa.heap.size,0,none⟩ 1 1 [.int .i64 2,.int .i64 0,.string (nM s s' j)] rfl rfl (World.news_of_block (fY _ _)) ?c2B ?c3B ?c4B ?c5B ?_);case c2B=>intro u hu;simp at hu;rcases hu with rfl|rfl|rfl<;>rfl
   case c3B=>unfold maxLen;omega
   case c4B=>omega
   case c5B=>have:=gA.size;simp;omega
   intro vb wb hownB hgrowB _;have gB:Gr w wb:=tO rfl OA.out gA hgrowB;have NBB:Hid (wb.heap[w.heap.size+1+1+1]?=some (.cells #[.int .i64 n,.int .i64 n',.int .i64 0] 3 (0,0))):=gU hgrowB (by rw[gF _ _ (fZ NBA.out)];exact NBA.out) (jF OA.out NBA.out (by decide));have TBB:Hid (wb.heap[w.heap.size+1+1+1+1]?=some (.cells #[.string ⟨#[]⟩,.string s,.string s'] 9 (0,0))):=gU hgrowB (by rw[gF _ _ (fZ TBA.out)];exact TBA.out) (jF OA.out TBA.out (by decide));(have OB:Hid (wb.ownsRow w.heap.size 45 3 vb (T2 n s n' s' j).length (kC (T2 n s n' s' j))):=by show World.ownsRow _ _ _ _ _ _ _;rw[T2,tL,aG];exact hownB);clear hownB hgrowB;clear ct NB TB O NBA TBA OA;go_wp2;go_loopw [5,11] (fun v i wr=>∃q:Nat,q<=4/\i=.int .i64 q/\Gr w wr/\Hid (wr.heap[w.heap.size+1+1+1]?=some (.cells #[.int .i64 n,.int .i64 n',.int .i64 0] 3 (0,0)))/\Hid (wr.heap[w.heap.size+1+1+1+1]?=some (.cells #[.string ⟨#[]⟩,.string s,.string s'] 9 (0,0)))/\Hid (wr.ownsRow w.heap.size 45 3 v (T3 n s n' s' j q).length (kC (T3 n s n' s' j q)))) (fun _ i _=>4-(intOf i).toNat);case atStart=>exact⟨0,by omega,rfl,gB,NBB,TBB,by rw[Yj];exact OB.out⟩
   case round=>
    obtain⟨q,hq,rfl,g2,NB2,TB2,O2⟩:=hrel;have hl3:=(Vc n s n' s' j q hj hq).2;by_cases hqt:q<4
    ·have hc1:=Xz q hqt;by_cases hx2:(nM s s' j).size<32
     ·have HN:Hid (T3 n s n' s' j (q+1)=T3 n s n' s' j q++ext (nM s s' j) q):=aAH hx2;go_wp2_with(at_builtin;refine wpList_append_own _ rfl _ _ 233 rfl w.heap.size 45 i0 _ 3 32 underlying233 hi hz0 hz1 hz2 rfl (by decide) _ _ _ rfl (O2.alloc _) ⟨wr.heap.size,0,none⟩ 2 2 [.int .i64 2,.int .i64 0,.string (nM s s' j++(⟨#[97,122,0,255]⟩:ByteArray).extract q (q+1)),.int .i64 2,.int .i64 0,.string ((⟨#[97,122,0,255]⟩:ByteArray).extract q (q+1)++nM s s' j)] rfl rfl (World.news_of_block (fY _ _)) ?c2C ?c3C ?c4C ?c5C ?_);case c2C=>intro u hu;simp at hu;rcases hu with rfl|rfl|rfl|rfl|rfl|rfl<;>rfl
      case c3C=>unfold maxLen;omega
      case c4C=>omega
      case c5C=>have:=g2.size;simp;omega
      intro vc wc hownC hgrowC _;have gC:Gr w wc:=tO rfl O2.out g2 hgrowC;have NBC:Hid (wc.heap[w.heap.size+1+1+1]?=some (.cells #[.int .i64 n,.int .i64 n',.int .i64 0] 3 (0,0))):=gU hgrowC (by rw[gF _ _ (fZ NB2.out)];exact NB2.out) (jF O2.out NB2.out (by decide));have TBC:Hid (wc.heap[w.heap.size+1+1+1+1]?=some (.cells #[.string ⟨#[]⟩,.string s,.string s'] 9 (0,0))):=gU hgrowC (by rw[gF _ _ (fZ TB2.out)];exact TB2.out) (jF O2.out TB2.out (by decide));(have OC:Hid (wc.ownsRow w.heap.size 45 3 vc (T3 n s n' s' j (q+1)).length (kC (T3 n s n' s' j (q+1)))):=by show World.ownsRow _ _ _ _ _ _ _;rw[HN.out,tL,aG];exact hownC);clear hownC hgrowC;go_wp2;go_roundw;case rel=>exact⟨q+1,by omega,by go_num,gC,NBC,TBC,OC⟩
      case measure=>simp[intOf];omega
     ·have HN:Hid (T3 n s n' s' j (q+1)=T3 n s n' s' j q):=aBE hx2;go_wp2;go_roundw;case rel=>exact⟨q+1,by omega,by go_num,g2,NB2,TB2,by rw[HN.out];exact O2.out⟩
      case measure=>simp[intOf];omega
    ·(have hq4:q=4:=by omega);subst hq4;go_wp2;go_roundw;case rel=>exact⟨j+1,by omega,by go_num,g2,NB2,TB2,by rw[<-Yk];exact O2.out⟩
     case measure=>simp[intOf];omega
  ·(have hj3:j=3:=by omega);subst hj3;go_wp2;go_ret;refine⟨_,rfl,g,?_⟩;rw[<-Yz];exact O.out
end Go.Proofs.YtecnfgikbmcgoabGreat
