import Derived.Test.YtecnfgikbmcgoabGreatG1
import Derived.WalkLawsBesides
import Derived.Deep.Light
import Derived.Deep.RegionHeld3
set_option maxHeartbeats 8000000
set_option maxRecDepth 100000
namespace Go.Proofs.YtecnfgikbmcgoabGreat
open Go.Proofs.Tryz
open Go.RowKit
variable {base i j:Nat}{c:UInt8}{k' n' y':Int}{s':ByteArray}{w:World}
def Tp(y k n:Int)(s:ByteArray)(y' k' n':Int)(s':ByteArray):Prop:=∀kv nv sv,iA kv nv sv=true->iI<=nv->nv<=iM->gT y k n s kv nv sv=true->gT y' k' n' s' kv nv sv=true
theorem zN(k n:Int)(s:ByteArray)(k' n':Int)(s':ByteArray):gT 1 k n s k' n' s'=true:=by simp[gT]
theorem sU{y k n:Int}{s:ByteArray}(hy:y≠1)(h:gT y k n s k' n' s'=true):k=k':=by
 by_cases hk:k=k'
 ·exact hk
 ·have hk':(k != k')=true:=by simpa using hk
  simp[gT,hy,hk'] at h
theorem zM{y k n:Int}{s:ByteArray}(hy:y≠1)(h:k≠k'):gT y k n s k' n' s'=false:=by
 cases hl:gT y k n s k' n' s'
 ·rfl
 ·exact absurd (sU hy hl) h
def mL(y n v:Int):Prop:=(y=2/\v=n)\/(y=3/\v≠n)\/(y=4/\v<n)\/(y=5/\v<=n)\/(y=6/\n<v)\/(y=7/\n<=v)
theorem mK{y n v:Int}{s sv:ByteArray}(h2:2<=y)(h7:y<=7)(hs:s.toList=[])(hv:sv.toList=[]):gT y 1 n s 1 v sv=true↔mL y n v:=by
 have hy:y=2\/y=3\/y=4\/y=5\/y=6\/y=7:=by omega
 rcases hy with rfl|rfl|rfl|rfl|rfl|rfl<;>simp[gT,mL,hs,hv]
theorem vY{y n:Int}{s:ByteArray}(h:gV y 1 n s=true)(h1:y≠1):s.toList=[]:=pB (mX h h1)
theorem Ph{y n:Int}(h2:2<=y)(h7:y<=7)(hlo:iI<=n)(hhi:n<=iM)(hn:iS y n=false):mL y n (lE y n)/\iI<=lE y n/\lE y n<=iM/\(lE y n=iI\/lE y n=n\/lE y n=n+1):=by
 have hy:y=2\/y=3\/y=4\/y=5\/y=6\/y=7:=by omega
 rcases hy with rfl|rfl|rfl|rfl|rfl|rfl<;>simp[iS] at hn<;>simp[lE,mL]
 ·omega
 ·split<;>simp_all[iI,iM]<;>omega
 ·simp only[iI,iM] at *;omega
 ·simp only[iI,iM] at *;omega
 ·simp only[iI,iM] at *;omega
 ·simp only[iI,iM] at *;omega
theorem Pi{y n:Int}(h2:2<=y)(h7:y<=7)(hlo:iI<=n)(hhi:n<=iM)(hn:iS y n=false):mL y n (lN y n)/\iI<=lN y n/\lN y n<=iM/\(lN y n=iM\/lN y n=n\/lN y n=n-1):=by
 have hy:y=2\/y=3\/y=4\/y=5\/y=6\/y=7:=by omega
 rcases hy with rfl|rfl|rfl|rfl|rfl|rfl<;>simp[iS] at hn<;>simp[lN,mL]
 ·omega
 ·split<;>simp_all[iI,iM]<;>omega
 ·simp only[iI,iM] at *;omega
 ·simp only[iI,iM] at *;omega
 ·simp only[iI,iM] at *;omega
 ·simp only[iI,iM] at *;omega
theorem Pg{y n v:Int}(h:mL y n v)(hlo:iI<=v)(hhi:v<=iM):lE y n<=v/\v<=lN y n:=by
 rcases h with⟨rfl,h⟩|⟨rfl,h⟩|⟨rfl,h⟩|⟨rfl,h⟩|⟨rfl,h⟩|⟨rfl,h⟩
 ·simp[lE,lN];omega
 ·refine⟨?_,?_⟩
  ·simp[lE];split<;>omega
  ·simp[lN];split<;>omega
 ·simp[lE,lN];omega
 ·simp[lE,lN];omega
 ·simp[lE,lN];omega
 ·simp[lE,lN];omega
theorem Wb{a b v:Int}(h3:y'≠3)(ha:mL y' n' a)(hb:mL y' n' b)(h1:a<=v)(h2:v<=b):mL y' n' v:=by unfold mL at *;omega
def iO(y:Int)(s v:List UInt8):Prop:=(y=2/\v=s)\/(y=3/\v≠s)\/(y=8/\s <+: v)\/(y=9/\s <:+ v)\/(y=10/\s <:+: v)
theorem vH(s p:List UInt8):Lib.contains s p=true↔p <:+: s:=by
 constructor
 ·intro h;rcases Lib.index_spec s p with⟨h1,_⟩|⟨i,h1,h2,h3,_⟩
  ·simp[Lib.contains,h1] at h
  ·simp only[Lib.occAt,eO] at h3;obtain⟨t,ht⟩:=h3;exact⟨s.take i,t,by rw[aU,ht,dZ]⟩
 ·rintro⟨a,b,rfl⟩;rcases Lib.index_spec (a++p++b) p with⟨_,h2⟩|⟨i,h1,_⟩
  ·have:=h2 a.length (by simp);simp[Lib.occAt] at this;rw[eO.2 (List.prefix_append p b)] at this;cases this
  ·unfold Lib.contains;rw[h1];simp
theorem jQ(s:ByteArray):s.toList=s.data.toList:=ByteArray.toList_eq s
theorem kX{y:Int}{s v:ByteArray}(hy:y=2\/y=3\/y=8\/y=9\/y=10):gT y 2 0 s 2 0 v=true↔iO y s.data.toList v.data.toList:=by
 rcases hy with rfl|rfl|rfl|rfl|rfl
 ·simp[gT,iO,jQ]
 ·simp[gT,iO,jQ]
 ·rw[show gT 8 2 0 s 2 0 v=Lib.hasPrefix v.data.toList s.data.toList by simp[gT],Lib.hasPrefix,eO];simp[iO]
 ·rw[show gT 9 2 0 s 2 0 v=Lib.hasSuffix v.data.toList s.data.toList by simp[gT],Lib.hasSuffix,List.isSuffixOf_iff_suffix];simp[iO]
 ·simp[gT,iO,vH]
theorem jW{y:Int}{s:ByteArray}(h:gV y 2 0 s=true):y=2\/y=3\/y=8\/y=9\/y=10:=by
 have hc:=mR h;by_cases h1:y=1
 ·subst h1;simp[sM] at h
 ·by_cases h4:4<=y/\y<=7
  ·have:=sL h h4.1 h4.2;omega
  ·omega
theorem Fy:gM.data.toList=[]:=rfl
theorem tV{s:ByteArray}(h:s.toList=[]):s.data.toList=[]:=by rw[<-jQ];exact h
theorem Kg{s:ByteArray}(h:s.data.toList=[]):s.toList=[]:=by rw[jQ];exact h
theorem nW(s:ByteArray):s.toList.isEmpty=true↔s.data.toList=[]:=by rw[jQ];simp
theorem Fd{y:Int}{s:ByteArray}{v:ByteArray}(hw:gV y 2 0 s=true)(hw':gV y' 2 0 s'=true)(h3:y'≠3)(h:qO y s y' s'=true)(hv:v.size<=32)(hl:iO y s.data.toList v.data.toList):iO y' s'.data.toList v.data.toList:=by
 have hy:=jW hw;have hy':=jW hw';have hs:s.data.toList.length=s.size:=by simp
 have hvs:v.data.toList.length=v.size:=by simp
 unfold qO at h;by_cases e3:y=3
 ·subst e3;simp only[beq_self_eq_true,if_true,aP,bne_iff_ne,nW] at h;obtain⟨h2,he⟩:=h;rw[he];unfold iO;have:y'=8\/y'=9\/y'=10:=by omega
  rcases this with rfl|rfl|rfl<;>simp
 ·have e3':(y==3)=false:=by simpa using e3
  simp only[e3',bO,if_false] at h;cases hb:gT y' 2 0 s' 2 0 s
  ·simp[hb] at h
  ·simp only[hb,Bool.not_true,bO,if_false] at h;have hb':=(kX hy').1 hb;(have same:v.data.toList=s.data.toList->iO y' s'.data.toList v.data.toList:=fun e=>by rw[e];exact hb');by_cases e2:y=2
   ·subst e2;exact same (by simpa[iO] using hl)
   ·by_cases h32:s.size=32
    ·refine same ?_;unfold iO at hl;(have hlen:v.data.toList.length<=s.data.toList.length:=by omega);rcases hl with⟨e,_⟩|⟨e,_⟩|⟨_,hl⟩|⟨_,hl⟩|⟨_,hl⟩
     ·exact absurd e e2
     ·exact absurd e e3
     ·exact(hl.eq_of_length (Nat.le_antisymm hl.length_le hlen)).symm
     ·exact(hl.eq_of_length (Nat.le_antisymm hl.length_le hlen)).symm
     ·exact(hl.eq_of_length (Nat.le_antisymm hl.length_le hlen)).symm
    ·(have e2':(y==2||((s.size:Int)==32))=false:=by simp;omega);simp only[e2',bO,if_false] at h;by_cases e2'':y'=2
     ·subst e2'';simp at h
     ·(have e4:(y'==2)=false:=by simpa using e2'');simp only[e4,bO,if_false,cN,beq_iff_eq,nW] at h;have hl8:y=8\/y=9\/y=10:=by omega
      (have hy8:y'=8\/y'=9\/y'=10:=by omega);have hin:s.data.toList <:+: v.data.toList:=by
       unfold iO at hl;rcases hl with⟨e,_⟩|⟨e,_⟩|⟨_,hl⟩|⟨_,hl⟩|⟨_,hl⟩
       ·omega
       ·omega
       ·exact hl.isInfix
       ·exact hl.isInfix
       ·exact hl
      rcases h with(h|h)|h
      ·subst h;unfold iO at hb' ⊢;(have:s'.data.toList <:+: s.data.toList:=by simpa using hb');simp;exact List.IsInfix.trans this hin
      ·subst h;unfold iO at hb' hl ⊢;rcases hl8 with rfl|rfl|rfl
       ·simp at hb' hl ⊢;exact hb'.trans hl
       ·simp at hb' hl ⊢;exact hb'.trans hl
       ·simp at hb' hl ⊢;exact hb'.trans hl
      ·rw[h];unfold iO;rcases hy8 with rfl|rfl|rfl<;>simp
theorem uA{y k n:Int}{s:ByteArray}(hw:gV y k n s=true)(hw':gV y' k' n' s'=true)(_hlo:iI<=n)(_hhi:n<=iM)(h:jB y k n s y' k' n' s'=true):Tp y k n s y' k' n' s':=by
 intro kv nv sv hv hn1 hn2 hl;by_cases hy':y'=1
 ·subst hy';exact zN ..
 have hy1':(y'==1)=false:=by simpa using hy'
 by_cases hno:iS y n=true
 ·simp only[iS,cN,aP,beq_iff_eq] at hno;rcases hno with⟨rfl,rfl⟩|⟨rfl,rfl⟩
  ·obtain⟨rfl,he⟩:=sL hw (by omega) (by omega);obtain rfl:=sU (by omega) hl;have:=(mK (by omega) (by omega) he (pB hv)).1 hl;unfold mL at this;omega
  ·obtain⟨rfl,he⟩:=sL hw (by omega) (by omega);obtain rfl:=sU (by omega) hl;have:=(mK (by omega) (by omega) he (pB hv)).1 hl;unfold mL at this;omega
 have hno':iS y n=false:=by simpa using hno
 unfold jB at h;simp only[hy1',hno',Bool.or_self,bO,if_false] at h;by_cases hyk:y=1\/k≠k'
 ·have:(y==1||k != k')=true:=by simpa using hyk
  simp[this] at h
 obtain⟨hy,rfl⟩:y≠1/\k=k':=by omega
 have e1:(y==1||k != k)=false:=by simpa using hy
 simp only[e1,bO,if_false] at h;obtain rfl:=sU hy hl;by_cases hy3:y'=3
 ·subst hy3;simp only[beq_self_eq_true,if_true] at h;cases hb:gT 3 k n' s' k nv sv
  ·(have:nv=n'/\sv.toList=s'.toList:=by simpa[gT] using hb);have e:gT y k n s k nv sv=gT y k n s k n' s':=by
    (have e2:sv.data.toList=s'.data.toList:=by rw[<-jQ,<-jQ];exact this.2);unfold gT;rw[this.1,this.2,e2]
   rw[<-e,hl] at h;simp at h
  ·rfl
 have e3:(y'==3)=false:=by simpa using hy3
 simp only[e3,bO,if_false] at h;rcases rJ hv with rfl|rfl|rfl
 ·simp only[beq_self_eq_true,if_true,nJ,aP] at h;have he:=vY hw hy;have he':=vY hw' hy';obtain⟨a1,a2⟩:=sK hw hy;obtain⟨b1,b2⟩:=sK hw' hy';have l1:=(mK b1 b2 he' iG).1 h.1;have l2:=(mK b1 b2 he' iG).1 h.2;have hl':=(mK a1 a2 he (pB hv)).1 hl;obtain⟨s1,s2⟩:=Pg hl' hn1 hn2;exact(mK b1 b2 he' (pB hv)).2 (Wb hy3 l1 l2 s1 s2)
 ·have e2:((2:Int)==1)=false:=rfl;simp only[e2,bO,if_false,beq_self_eq_true,if_true] at h;obtain rfl:=mF (mX hw hy);obtain rfl:=mF (mX hw' hy');obtain rfl:=mF hv;exact(kX (jW hw')).2 (Fd hw hw' hy3 h (oH hv) ((kX (jW hw)).1 hl))
 ·have e2:((3:Int)==1)=false:=rfl;have e4:((3:Int)==2)=false:=rfl;simp only[e2,e4,bO,if_false,tT] at h;obtain⟨hnv,hsv⟩:=yE hv;have hd:sv.data.toList=gM.data.toList:=by rw[Fy];exact tV hsv
  have e:∀y n s,gT y 3 n s 3 nv sv=gT y 3 n s 3 nv gM:=fun y n s=>by unfold gT;rw[hsv,iG,hd]
  rw[e] at hl ⊢;rcases hnv with rfl|rfl
  ·simp only[hl,eD,Bool.not_not,aP] at h;exact h.1
  ·simp only[hl,eD,Bool.not_not,aP] at h;exact h.2
def aT:ByteArray:=⟨#[97]⟩
def zT:ByteArray:=⟨#[122]⟩
def oT:ByteArray:=⟨#[0]⟩
def fT:ByteArray:=⟨#[255]⟩
def kQ(n:Int)(s:ByteArray):List (Int×Int×ByteArray):=[(1,n,gM),(1,wrap64 (n+1),gM),(1,wrap64 (n-1),gM),(2,0,s)] ++(if s.size<32 then[(2,0,s++aT),(2,0,aT++s),(2,0,s++zT),(2,0,zT++s),(2,0,s++oT),(2,0,oT++s),(2,0,s++fT),(2,0,fT++s)] else[])
def gJ(n:Int)(s:ByteArray)(n':Int)(s':ByteArray):List (Int×Int×ByteArray):=[(3,0,gM),(3,1,gM),(1,iI,gM),(1,iM,gM)]++kQ n gM++kQ n' s++kQ 0 s'
def Wit(y k n:Int)(s:ByteArray)(y' k' n':Int)(s':ByteArray):Prop:=∃v∈gJ n s n' s',gT y k n s v.1 v.2.1 v.2.2=true/\gT y' k' n' s' v.1 v.2.1 v.2.2=false
theorem vN(s t:ByteArray):(s++t).data.toList=s.data.toList++t.data.toList:=by simp
theorem nL{y k n:Int}{s:ByteArray}(kv nv:Int)(sv:ByteArray)(hm:(kv,nv,sv)∈gJ n s n' s')(h1:gT y k n s kv nv sv=true)(h2:gT y' k' n' s' kv nv sv=false):Wit y k n s y' k' n' s':=⟨_,hm,h1,h2⟩
section
variable (n:Int) (s:ByteArray) (n':Int) (s':ByteArray)
theorem Sy:(3,0,gM)∈gJ n s n' s':=by simp[gJ]
theorem Xf:(3,1,gM)∈gJ n s n' s':=by simp[gJ]
theorem Sv:(1,iI,gM)∈gJ n s n' s':=by simp[gJ]
theorem Sw:(1,iM,gM)∈gJ n s n' s':=by simp[gJ]
theorem Zt:(1,n,gM)∈gJ n s n' s':=by simp[gJ,kQ]
theorem aA0:(1,wrap64 (n+1),gM)∈gJ n s n' s':=by simp[gJ,kQ]
theorem aA1:(1,wrap64 (n-1),gM)∈gJ n s n' s':=by simp[gJ,kQ]
theorem aBN:(1,n',gM)∈gJ n s n' s':=by simp[gJ,kQ]
theorem m_0:(1,0,gM)∈gJ n s n' s':=by simp[gJ,kQ]
theorem m_e:(2,0,gM)∈gJ n s n' s':=by simp[gJ,kQ]
theorem aAZ:(2,0,s)∈gJ n s n' s':=by simp[gJ,kQ]
theorem aBM:(2,0,s')∈gJ n s n' s':=by simp[gJ,kQ]
theorem Zs:(2,0,gM++aT)∈gJ n s n' s':=by simp[gJ,kQ,show gM.size<32 by decide]
theorem aAY:(2,0,gM++zT)∈gJ n s n' s':=by simp[gJ,kQ,show gM.size<32 by decide]
theorem aAX(h:s.size<32):(2,0,s++aT)∈gJ n s n' s':=by simp[gJ,kQ,h]
theorem aBL(h:s.size<32):(2,0,s++zT)∈gJ n s n' s':=by simp[gJ,kQ,h]
theorem Yv(h:s.size<32):(2,0,aT++s)∈gJ n s n' s':=by simp[gJ,kQ,h]
theorem aBK(h:s.size<32):(2,0,zT++s)∈gJ n s n' s':=by simp[gJ,kQ,h]
end
theorem kO{y:Int}{s:ByteArray}(hw:gV y 2 0 s=true)(hw':gV y' 2 0 s'=true)(v:ByteArray)(hm:(2,0,v)∈gJ 0 s 0 s')(h1:iO y s.data.toList v.data.toList)(h2:¬iO y' s'.data.toList v.data.toList):Wit y 2 0 s y' 2 0 s':=by
 refine nL 2 0 v hm ((kX (jW hw)).2 h1) ?_;cases h:gT y' 2 0 s' 2 0 v
 ·rfl
 ·exact absurd ((kX (jW hw')).1 h) h2
theorem zO{t v:List UInt8}(h3:y'≠3)(h:iO y' t v):t <:+: v:=by
 rcases h with⟨_,h⟩|⟨h,_⟩|⟨_,h⟩|⟨_,h⟩|⟨_,h⟩
 ·rw[h];exact List.infix_refl t
 ·exact absurd h h3
 ·exact h.isInfix
 ·exact h.isInfix
 ·exact h
theorem Ck{t:List UInt8}(h:t <:+: [c]):t=[]\/t=[c]:=by
 cases t with
 |nil=>exact Or.inl rfl
 |cons d t=>refine Or.inr (h.eq_of_length ?_);have:=h.length_le;simp at this ⊢;simp[this]
theorem To{t:List UInt8}(h:t <:+: []):t=[]:=by have:=h.length_le;exact dB.1 (by simpa using this)
theorem Fv{t s:List UInt8}(h:t <+: c::s)(hne:t≠[]):t.head?=some c:=by
 obtain⟨p,hp⟩:=h;cases t with
 |nil=>exact absurd rfl hne
 |cons d t=>simp at hp;simp[hp.1]
theorem Fe{t s:List UInt8}(h:t <:+ s++[c])(hne:t≠[]):t.getLast?=some c:=by
 obtain⟨p,hp⟩:=h;have:=congrArg List.getLast? hp;rw[List.getLast?_append,List.getLast?_append] at this;cases hl:t.getLast? with
 |none=>exact absurd (List.getLast?_eq_none_iff.1 hl) hne
 |some d=>rw[hl] at this;simpa using this
theorem Nm{y:Int}{s:ByteArray}(hw:gV y 2 0 s=true)(hw':gV y' 2 0 s'=true)(h3:y'≠3)(h:qO y s y' s'=false):Wit y 2 0 s y' 2 0 s':=by
 have hy:=jW hw;have hy':=jW hw';have hs32:=oH (Ez hw);have da:(gM++aT).data.toList=[97]:=rfl;have dz:(gM++zT).data.toList=[122]:=rfl;have de:gM.data.toList=[]:=rfl;unfold qO at h;by_cases e3:y=3
 ·subst e3;simp only[beq_self_eq_true,if_true] at h;have h2:s'.data.toList=[]->y'=2:=fun e=>by have:s'.toList.isEmpty=true:=(nW s').2 e;rw[this] at h;simpa using h
  by_cases hs:s'.data.toList=[]
  ·obtain rfl:=h2 hs;by_cases ha:s.data.toList=[97]
   ·refine kO hw hw' _ (aAY 0 s 0 s') (by rw[dz,ha];simp[iO]) ?_;rw[dz,hs];simp[iO]
   ·refine kO hw hw' _ (Zs 0 s 0 s') (by rw[da];simp[iO];exact fun e=>ha e.symm) ?_;rw[da,hs];simp[iO]
  ·by_cases hs0:s.data.toList=[]
   ·by_cases ha:s'.data.toList=[97]
    ·refine kO hw hw' _ (aAY 0 s 0 s') (by rw[dz,hs0];simp[iO]) (fun hl=>?_);rw[dz] at hl;rcases Ck (zO h3 hl) with e|e
     ·exact hs e
     ·rw[ha] at e;simp at e
    ·refine kO hw hw' _ (Zs 0 s 0 s') (by rw[da,hs0];simp[iO]) (fun hl=>?_);rw[da] at hl;rcases Ck (zO h3 hl) with e|e
     ·exact hs e
     ·exact ha e
   ·refine kO hw hw' _ (m_e 0 s 0 s') (by rw[de];exact Or.inr (Or.inl ⟨rfl,fun e=>hs0 e.symm⟩)) (fun hl=>?_);rw[de] at hl;exact hs (To (zO h3 hl))
 ·have e3':(y==3)=false:=by simpa using e3
  simp only[e3',bO,if_false] at h;have hself:iO y s.data.toList s.data.toList:=by
   rcases hy with rfl|rfl|rfl|rfl|rfl
   ·simp[iO]
   ·exact absurd rfl e3
   ·simp[iO]
   ·simp[iO]
   ·simp[iO]
  cases hb:gT y' 2 0 s' 2 0 s
  ·exact nL 2 0 s (aAZ 0 s 0 s') ((kX hy).2 hself) hb
  ·simp only[hb,Bool.not_true,bO,if_false] at h;have hb':=(kX hy').1 hb;by_cases e2:(y==2||((s.size:Int)==32))=true
   ·rw[if_pos e2] at h;cases h
   ·rw[if_neg e2] at h;(have e2':y≠2/\s.size≠32:=by simp at e2;omega);(have hlt:s.size<32:=by omega);(have hy8:y=8\/y=9\/y=10:=by omega);have pa:(s++aT).data.toList=s.data.toList++[97]:=vN s aT;have pz:(s++zT).data.toList=s.data.toList++[122]:=vN s zT;have qa:(aT++s).data.toList=97::s.data.toList:=vN aT s;have qz:(zT++s).data.toList=122::s.data.toList:=vN zT s;have suf:∀c:UInt8,y=8\/y=10->iO y s.data.toList (s.data.toList++[c]):=fun c hc=>by
     rcases hc with rfl|rfl
     ·simp[iO]
     ·simp only[iO];simp;exact(List.prefix_append _ _).isInfix
    have pre:∀c:UInt8,y=9\/y=10->iO y s.data.toList (c::s.data.toList):=fun c hc=>by
     rcases hc with rfl|rfl
     ·simp only[iO];simp
     ·simp only[iO];simp;exact(List.suffix_cons c _).isInfix
    by_cases e4:y'=2
    ·subst e4;(have hss:s.data.toList=s'.data.toList:=by simpa[iO] using hb');by_cases h9:y=9
     ·refine kO hw hw' _ (Yv 0 s 0 s' hlt) (by rw[qa];exact pre 97 (Or.inl h9)) ?_;rw[qa,<-hss];simp[iO]
     ·refine kO hw hw' _ (aAX 0 s 0 s' hlt) (by rw[pa];exact suf 97 (by omega)) ?_;rw[pa,<-hss];simp[iO]
    ·(have e4':(y'==2)=false:=by simpa using e4);simp only[e4',bO,if_false,Bool.or_eq_false_iff] at h;obtain⟨⟨h10,hyy⟩,hse⟩:=h;have h10':y'≠10:=by simpa using h10
     (have hyy':y'≠y:=by simpa using hyy);have hne:s'.data.toList≠[]:=fun e=>by rw[(nW s').2 e] at hse;cases hse
     (have hy89:y'=8\/y'=9:=by omega);rcases hy89 with rfl|rfl
     ·by_cases hh:s'.data.toList.head?=some 97
      ·refine kO hw hw' _ (aBK 0 s 0 s' hlt) (by rw[qz];exact pre 122 (by omega)) (fun hl=>?_);rw[qz] at hl;have:=Fv (by simpa[iO] using hl) hne;rw[hh] at this;simp at this
      ·refine kO hw hw' _ (Yv 0 s 0 s' hlt) (by rw[qa];exact pre 97 (by omega)) (fun hl=>?_);rw[qa] at hl;exact hh (Fv (by simpa[iO] using hl) hne)
     ·by_cases hh:s'.data.toList.getLast?=some 97
      ·refine kO hw hw' _ (aBL 0 s 0 s' hlt) (by rw[pz];exact suf 122 (by omega)) (fun hl=>?_);rw[pz] at hl;have:=Fe (s:=s.data.toList) (by simpa[iO] using hl) hne;rw[hh] at this;simp at this
      ·refine kO hw hw' _ (aAX 0 s 0 s' hlt) (by rw[pa];exact suf 97 (by omega)) (fun hl=>?_);rw[pa] at hl;exact hh (Fe (s:=s.data.toList) (by simpa[iO] using hl) hne)
theorem Ou{y k n:Int}{s:ByteArray}(hv:y=2\/y=5\/y=7\/y=8\/y=9\/y=10):gT y k n s k n s=true:=by
 rcases hv with rfl|rfl|rfl|rfl|rfl|rfl
 ·simp[gT]
 ·simp[gT]
 ·simp[gT]
 ·rw[show gT 8 k n s k n s=Lib.hasPrefix s.data.toList s.data.toList by simp[gT],Lib.hasPrefix,eO];exact List.prefix_refl _
 ·rw[show gT 9 k n s k n s=Lib.hasSuffix s.data.toList s.data.toList by simp[gT],Lib.hasSuffix,List.isSuffixOf_iff_suffix];exact List.suffix_refl _
 ·simp[gT,vH]
theorem pO(y k n:Int)(s:ByteArray)(k' n':Int){t t':ByteArray}(h:t.toList=t'.toList):gT y k n s k' n' t=gT y k n s k' n' t':=by
 have h':t.data.toList=t'.data.toList:=by rw[<-jQ,<-jQ];exact h
 unfold gT;rw[h,h']
theorem Rg{y k n:Int}{s:ByteArray}(n':Int)(s':ByteArray)(hw:gV y k n s=true)(hy:y≠1)(hlo:iI<=n)(hhi:n<=iM)(hno:iS y n=false):∃v∈gJ n s n' s',v.1=k/\gT y k n s v.1 v.2.1 v.2.2=true:=by
 have hv:=mX hw hy;have hc:=mR hw;rcases rJ hv with rfl|rfl|rfl
 ·have he:=pB hv;obtain⟨a1,a2⟩:=sK hw hy;have key:∀x,mL y n x->gT y 1 n s 1 x gM=true:=fun x hx=>(mK a1 a2 he iG).2 hx;by_cases h:y=2\/y=5\/y=7
  ·exact⟨_,Zt n s n' s',rfl,key n (by unfold mL;omega)⟩
  ·by_cases h3:y=3
   ·by_cases hn:n=iI
    ·exact⟨_,Sw n s n' s',rfl,key iM (by unfold mL iI iM at *;omega)⟩
    ·exact⟨_,Sv n s n' s',rfl,key iI (by unfold mL;omega)⟩
   ·simp[iS] at hno;by_cases h4:y=4
    ·(have:n≠iI:=fun e=>by simp[h4,e] at hno);exact⟨_,Sv n s n' s',rfl,key iI (by unfold mL;omega)⟩
    ·(have h6:y=6:=by omega);have:n≠iM:=fun e=>by simp[h6,e] at hno
     exact⟨_,Sw n s n' s',rfl,key iM (by unfold mL;omega)⟩
 ·obtain rfl:=mF hv;by_cases h3:y=3
  ·subst h3;by_cases hs:s.toList=[]
   ·refine⟨_,Zs 0 s n' s',rfl,(kX (jW hw)).2 ?_⟩;have:(gM++aT).data.toList=[97]:=rfl;simp only[this,tV hs];simp[iO]
   ·refine⟨_,m_e 0 s n' s',rfl,(kX (jW hw)).2 ?_⟩;exact Or.inr (Or.inl ⟨rfl,fun e=>hs (Kg e.symm)⟩)
  ·have:=jW hw;exact⟨_,aAZ 0 s n' s',rfl,Ou (by omega)⟩
 ·obtain⟨hn,hs⟩:=yE hv;have hy23:y=2\/y=3:=by
   by_cases h3:y<=3
   ·omega
   ·by_cases h7:y<=7
    ·have:=sL hw (by omega) h7;omega
    ·have:=Qm hw (by omega) (by omega);omega
  rcases hy23 with rfl|rfl<;>rcases hn with rfl|rfl
  ·exact⟨_,Sy 0 s n' s',rfl,by simp[gT,hs,iG]⟩
  ·exact⟨_,Xf 1 s n' s',rfl,by simp[gT,hs,iG]⟩
  ·exact⟨_,Xf 0 s n' s',rfl,by simp[gT]⟩
  ·exact⟨_,Sy 1 s n' s',rfl,by simp[gT]⟩
theorem yC{y k n:Int}{s:ByteArray}(hw:gV y k n s=true)(hw':gV y' k' n' s'=true)(hlo:iI<=n)(hhi:n<=iM)(h:jB y k n s y' k' n' s'=false):Wit y k n s y' k' n' s':=by
 by_cases hy':y'=1
 ·subst hy';simp[jB] at h
 have hy1':(y'==1)=false:=by simpa using hy'
 cases hno:iS y n
 ·unfold jB at h;simp only[hy1',hno,Bool.or_self,bO,if_false] at h;by_cases hy:y=1
  ·subst hy;by_cases hk:k'=3
   ·exact nL 1 0 gM (m_0 n s n' s') (zN ..) (zM hy' (by omega))
   ·exact nL 3 0 gM (Sy n s n' s') (zN ..) (zM hy' (by omega))
  by_cases hk:k=k'
  ·subst hk;(have e1:(y==1||k != k)=false:=by simpa using hy);simp only[e1,bO,if_false] at h;by_cases hy3:y'=3
   ·subst hy3;simp only[beq_self_eq_true,if_true] at h;(have hl:gT y k n s k n' s'=true:=by simpa using h);have hv':=mX hw' hy';(have hoff:∀t:ByteArray,t.toList=s'.toList->gT 3 k n' s' k n' t=false:=fun t ht=>by simp[gT,ht]);rcases rJ hv' with rfl|rfl|rfl
    ·have he:=pB hv';refine nL 1 n' gM (aBN n s n' s') ?_ (hoff _ (by rw[he];exact iG));rw[pO y 1 n s 1 n' (show gM.toList=s'.toList by rw[he];exact iG)];exact hl
    ·obtain rfl:=mF hv';exact nL 2 0 s' (aBM n s 0 s') hl (hoff _ rfl)
    ·obtain⟨hn,he⟩:=yE hv';(have ht:gM.toList=s'.toList:=by rw[he];exact iG);rcases hn with rfl|rfl
     ·refine nL 3 0 gM (Sy n s 0 s') ?_ (hoff _ ht);rw[pO y 3 n s 3 0 ht];exact hl
     ·refine nL 3 1 gM (Xf n s 1 s') ?_ (hoff _ ht);rw[pO y 3 n s 3 1 ht];exact hl
   (have e3:(y'==3)=false:=by simpa using hy3);simp only[e3,bO,if_false] at h;have hv:=mX hw hy;rcases rJ hv with rfl|rfl|rfl
   ·simp only[beq_self_eq_true,if_true,nJ,eK] at h;have he:=vY hw hy;obtain⟨a1,a2⟩:=sK hw hy;obtain⟨l1,l2,l3,l4⟩:=Ph a1 a2 hlo hhi hno;obtain⟨r1,r2,r3,r4⟩:=Pi a1 a2 hlo hhi hno;rcases h with h|h
    ·refine nL 1 (lE y n) gM ?_ ((mK a1 a2 he iG).2 l1) h;rcases l4 with e|e|e
     ·rw[e];exact Sv n s n' s'
     ·rw[e];exact Zt n s n' s'
     ·(have:lE y n=wrap64 (n+1):=by rw[e,IntWalk.wrap64_in];unfold iI iM at *;omega);rw[this];exact aA0 n s n' s'
    ·refine nL 1 (lN y n) gM ?_ ((mK a1 a2 he iG).2 r1) h;rcases r4 with e|e|e
     ·rw[e];exact Sw n s n' s'
     ·rw[e];exact Zt n s n' s'
     ·(have:lN y n=wrap64 (n-1):=by rw[e,IntWalk.wrap64_in];unfold iI iM at *;omega);rw[this];exact aA1 n s n' s'
   ·have e2:((2:Int)==1)=false:=rfl;simp only[e2,bO,if_false,beq_self_eq_true,if_true] at h;obtain rfl:=mF hv;obtain rfl:=mF (mX hw' hy');exact Nm hw hw' hy3 h
   ·have e2:((3:Int)==1)=false:=rfl;have e4:((3:Int)==2)=false:=rfl;simp only[e2,e4,bO,if_false,tT,eK,Bool.not_eq_false',aP,bW] at h;rcases h with h|h
    ·exact nL 3 0 gM (Sy n s n' s') h.1 h.2
    ·exact nL 3 1 gM (Xf n s n' s') h.1 h.2
  ·obtain⟨v,hm,hk1,hl⟩:=Rg n' s' hw hy hlo hhi hno;exact⟨v,hm,hl,zM hy' (by rw[hk1];omega)⟩
 ·unfold jB at h;simp[hno] at h
def cT(k:Nat):ByteArray:=(⟨#[97,122,0,255]⟩:ByteArray).extract k (k+1)
theorem cT0:cT 0=aT:=by decide
theorem cT1:cT 1=zT:=by decide
theorem cT2:cT 2=oT:=by decide
theorem cT3:cT 3=fT:=by decide
theorem Xz(k:Nat)(h:k<4):(cT k).size=1:=by
 have:k=0\/k=1\/k=2\/k=3:=by omega
 rcases this with rfl|rfl|rfl|rfl<;>decide
def yH(n n':Int)(i:Nat):Int:=if i=0 then n else if i=1 then n' else 0
def nM(s s':ByteArray)(i:Nat):ByteArray:=if i=0 then gM else if i=1 then s else s'
def Dh(n:Int):List (Int×Int×ByteArray):=[(1,n,gM),(1,wrap64 (n+1),gM),(1,wrap64 (n-1),gM)]
def ext(s:ByteArray)(k:Nat):List (Int×Int×ByteArray):=[(2,0,s++cT k),(2,0,cT k++s)]
def lY(s:ByteArray):Nat->List (Int×Int×ByteArray)
 |0=>[]
 |k+1=>if s.size<32 then lY s k++ext s k else lY s k
def Mi:List (Int×Int×ByteArray):=[(3,0,gM),(3,1,gM),(1,iI,gM),(1,iM,gM)]
def TL(n:Int)(s:ByteArray)(n':Int)(s':ByteArray):Nat->List (Int×Int×ByteArray)
 |0=>Mi
 |i+1=>TL n s n' s' i++Dh (yH n n' i)++[(2,0,nM s s' i)]++lY (nM s s' i) 4
def T1(n:Int)(s:ByteArray)(n':Int)(s':ByteArray)(j:Nat):List (Int×Int×ByteArray):=TL n s n' s' j++Dh (yH n n' j)
def T2(n:Int)(s:ByteArray)(n':Int)(s':ByteArray)(j:Nat):List (Int×Int×ByteArray):=T1 n s n' s' j++[(2,0,nM s s' j)]
def T3(n:Int)(s:ByteArray)(n':Int)(s':ByteArray)(j q:Nat):List (Int×Int×ByteArray):=T2 n s n' s' j++lY (nM s s' j) q
theorem Yj(n:Int)(s:ByteArray)(n':Int)(s':ByteArray)(j:Nat):T3 n s n' s' j 0=T2 n s n' s' j:=by simp[T3,lY]
theorem Yk(n:Int)(s:ByteArray)(n':Int)(s':ByteArray)(j:Nat):T3 n s n' s' j 4=TL n s n' s' (j+1):=rfl
theorem aAH{n:Int}{s:ByteArray}{q:Nat}(h:(nM s s' j).size<32):T3 n s n' s' j (q+1)=T3 n s n' s' j q++ext (nM s s' j) q:=by simp[T3,lY,h]
theorem aBE{n:Int}{s:ByteArray}{q:Nat}(h:¬(nM s s' j).size<32):T3 n s n' s' j (q+1)=T3 n s n' s' j q:=by simp[T3,lY,h]
theorem yY(n:Int)(s:ByteArray):Dh n++[(2,0,s)]++lY s 4=kQ n s:=by unfold kQ;by_cases h:s.size<32<;>simp[Dh,lY,ext,h,cT0,cT1,cT2,cT3]
theorem Yz(n:Int)(s:ByteArray)(n':Int)(s':ByteArray):TL n s n' s' 3=gJ n s n' s':=by
 have h0:TL n s n' s' 3=Mi++(Dh (yH n n' 0)++[(2,0,nM s s' 0)]++lY (nM s s' 0) 4)++(Dh (yH n n' 1)++[(2,0,nM s s' 1)]++lY (nM s s' 1) 4)++(Dh (yH n n' 2)++[(2,0,nM s s' 2)]++lY (nM s s' 2) 4):=by simp only[TL,aU]
 rw[h0,yY,yY,yY];simp[yH,nM,gJ,Mi]
def Qp(v:Int×Int×ByteArray):List Value:=[.int .i64 v.1,.int .i64 v.2.1,.string v.2.2]
def kC(l:List (Int×Int×ByteArray)):List Value:=l.flatMap Qp
theorem tL(a b:List (Int×Int×ByteArray)):kC (a++b)=kC a++kC b:=by simp[kC]
theorem tU(s:ByteArray):∀k,(lY s k).length<=2*k
 |0=>by simp[lY]
 |k+1=>by
  have:=tU s k;unfold lY;split
  ·simp[ext];omega
  ·omega
theorem En(n:Int)(s:ByteArray)(n':Int)(s':ByteArray):∀i,(TL n s n' s' i).length<=4+12*i
 |0=>by simp[TL,Mi]
 |i+1=>by have:=En n s n' s' i;have:=tU (nM s s' i) 4;simp[TL,Dh];omega
theorem Vc(n:Int)(s:ByteArray)(n':Int)(s':ByteArray)(j q:Nat)(hj:j<=3)(hq:q<=4):(T1 n s n' s' j).length<=60/\(T3 n s n' s' j q).length<=60:=by have:=En n s n' s' j;have:=tU (nM s s' j) q;simp only[T3,T2,T1,Dh,aG,bA,cF];omega
theorem gU{w':World}{row:Option Nat}{k:Nat}{o:Obj}(hg:w.grownBy w' row)(h:w.heap[k]?=some o)(hr:row≠some k):w'.heap[k]?=some o:=by
 have hlt:k<w.heap.size:=by
  rcases cG k w.heap.size with h'|h'
  ·exact h'
  ·rw[dM (by omega)] at h;cases h
 rw[hg.block k hlt (fun e=>hr e.symm)];exact h
theorem jF{e t:TypeId}{size:Nat}{v:Value}{n:Nat}{xs:List Value}{k:Nat}{cs:Array Value}{fr:Nat×Nat}(h:w.ownsRow base e size v n xs)(hk:w.heap[k]?=some (.cells cs t fr))(hne:t≠e):v.ownBlock≠some k:=by
 rcases h.2 with⟨hv,_⟩|⟨q,cap,cur,hv,hq,hh,_⟩
 ·rw[hv];simp[Value.ownBlock]
 ·rw[hv];simp only[Value.ownBlock];intro e';have:q=k:=by simpa using e'
  subst this;rw[hh] at hk;simp at hk;exact hne hk.2.1.symm
theorem Lf:∀(l:List (Int×Int×ByteArray))(i:Nat)(v:Int×Int×ByteArray),l[i]?=some v->(kC l)[i*3]?=some (.int .i64 v.1)/\(kC l)[i*3+1]?=some (.int .i64 v.2.1)/\(kC l)[i*3+2]?=some (.string v.2.2)
 |[],i,v,h=>by simp at h
 |x::l,0,v,h=>by simp at h;subst h;simp[kC,Qp]
 |x::l,i+1,v,h=>by
  have ih:=Lf l i v (by simpa using h);have e:∀j,(kC (x::l))[(i+1)*3+j]?=(kC l)[i*3+j]?:=fun j=>by
   (have:(i+1)*3+j=(i*3+j)+3:=by omega);rw[this];simp[kC,Qp,List.getElem?_cons_succ]
  have e0:=e 0;simp only[fI] at e0;rw[e0,e 1,e 2];exact ih
def Ja:Wnt:=⟨⟨#[115,112,97,114,101]⟩,0,0,0,⟨#[]⟩⟩
def nN(f:List Wnt):List Wnt:=f++List.replicate 8 Ja
theorem qE(f:List Wnt):(nN f).length=f.length+8:=by simp[nN]
theorem xQ{f:List Wnt}(h:i<f.length):wat (nN f) i=wat f i:=by simp[wat,nN,List.getD_eq_getElem?_getD,List.getElem?_append_left h]
theorem Ca{f:List Wnt}(h:¬i<f.length)(h2:i<f.length+8):wat (nN f) i=Ja:=by simp only[wat,nN,aI];rw[bS (by omega),fS,if_pos (by omega)];rfl
def set5(xs:List Value)(k:Nat)(a b c d e:Value):List Value:=((((xs.set k a).set (k+1) b).set (k+1+1) c).set (k+1+1+1) d).set (k+1+1+1+1) e
theorem take_set(xs:List Value)(k:Nat)(v:Value)(h:k<xs.length):(xs.set k v).take (k+1)=xs.take k++[v]:=by rw[aW (by simpa using h),cX (Nat.le_refl k)];simp
theorem Qu(xs:List Value)(k:Nat)(a b c d e:Value)(h:k+5<=xs.length):(set5 xs k a b c d e).take (k+5)=xs.take k++[a,b,c,d,e]:=by unfold set5;have h1:=take_set xs k a (by omega);have h2:=take_set (xs.set k a) (k+1) b (by simp;omega);have h3:=take_set ((xs.set k a).set (k+1) b) (k+1+1) c (by simp;omega);have h4:=take_set (((xs.set k a).set (k+1) b).set (k+1+1) c) (k+1+1+1) d (by simp;omega);have h5:=take_set ((((xs.set k a).set (k+1) b).set (k+1+1) c).set (k+1+1+1) d) (k+1+1+1+1) e (by simp;omega);rw[show k+5=k+1+1+1+1+1 by omega,h5,h4,h3,h2,h1];simp
theorem Rj(xs:List Value)(k:Nat)(a b c d e:Value):(set5 xs k a b c d e).length=xs.length:=by simp[set5]
theorem rI(l:List Wnt)(i:Nat)(h:i<l.length):iN (l.take (i+1))=iN (l.take i)++[.string (wat l i).a,.int .i64 (wat l i).y,.int .i64 (wat l i).k,.int .i64 (wat l i).n,.string (wat l i).s]:=by
 have e:wat l i=l[i]:=by simp[wat,List.getD_eq_getElem?_getD,List.getElem?_eq_getElem h]
 rw[aW h,Ew,e]
theorem vU{e:TypeId}{g n cap:Nat}{xs:List Value}(h:w.ownsRow base e 5 (.slice (some ⟨g,0,none⟩) n cap) n xs)(k:Nat)(a b c d f:Value):(((((w.setCell ⟨g,k,none⟩ a).setCell ⟨g,k+1,none⟩ b).setCell ⟨g,k+1+1,none⟩ c).setCell ⟨g,k+1+1+1,none⟩ d).setCell ⟨g,k+1+1+1+1,none⟩ f).ownsRow base e 5 (.slice (some ⟨g,0,none⟩) n cap) n (set5 xs k a b c d f):=(bI (bI (bI (bI (bI h k a).1 (k+1) b).1 (k+1+1) c).1 (k+1+1+1) d).1 (k+1+1+1+1) f).1
theorem xV{v:World}{g k:Nat}(hg:w.heap.size<=g)(h:Gr w v)(a b c d f:Value):Gr w (((((v.setCell ⟨g,k,none⟩ a).setCell ⟨g,k+1,none⟩ b).setCell ⟨g,k+1+1,none⟩ c).setCell ⟨g,k+1+1+1,none⟩ d).setCell ⟨g,k+1+1+1+1,none⟩ f):=Below.setCell (Below.setCell (Below.setCell (Below.setCell (Below.setCell h hg _) hg _) hg _) hg _) hg _
structure FE where
 g:Nat
 f:List Wnt
 ad:Option Addr
 cap:Nat
def FE.fc(e:FE):Value:=.slice (some ⟨e.g,0,none⟩) (e.f.length+8) (e.f.length+8)
def FE.wc(e:FE):Value:=.slice e.ad e.f.length e.cap
theorem nZ(s:ByteArray)(w:World)(hs:s.size<=maxLen):Calls prog 81 #[.string s] w fun e w'=>e=.returned (.bool (lI s))/\w'=w:=by
 unfold maxLen at hs;go_enter func81,ntmps81;go_wp2
 ·go_ret;exact⟨gG (zI s ‹_›),rfl⟩
 ·go_loop [14] (fun i=>∃k:Nat,k<=s.size/\i=.int .i64 k/\Hid ((s.data.toList.take k).all oQ=true)) (fun i=>s.size-(intOf i).toNat);case atStart=>exact⟨0,zZ,rfl,rfl⟩
  case round=>
   obtain⟨k,hk,rfl,HA⟩:=hrel;by_cases hlt:k<s.size
   ·go_wp2
    ·go_ret;exact⟨gG (sT s k hlt ‹_›),rfl⟩
    ·go_round;case rel=>exact⟨k+1,by omega,by go_num,zL s k hlt HA (by omega) (by omega)⟩
     case measure=>simp[intOf];omega
    ·go_ret;exact⟨gG (sT s k hlt (Or.inl ‹_›)),rfl⟩
   ·go_wp2;go_ret;refine⟨gG ?_,rfl⟩;rw[Gb s k hlt HA.out];symm;simp;omega
 ·go_ret;exact⟨gG (zI s (Or.inl ‹_›)),rfl⟩
theorem uU(s:ByteArray)(w:World)(hs:s.size<=maxLen):Calls prog 85 #[.string s] w fun e w'=>e=.returned (.bool (lI s))/\w'=w:=by
 unfold maxLen at hs;go_enter func85,ntmps85;go_wp2;go_loop [3] (fun i=>∃k:Nat,k<=s.size/\i=.int .i64 k/\Hid ((s.data.toList.take k).all oQ=true)) (fun i=>s.size-(intOf i).toNat);case atStart=>exact⟨0,zZ,rfl,rfl⟩
 case round=>
  obtain⟨k,hk,rfl,HA⟩:=hrel;by_cases hlt:k<s.size
  ·go_wp2
   ·go_ret;exact⟨gG (sT s k hlt ‹_›),rfl⟩
   ·go_round;case rel=>exact⟨k+1,by omega,by go_num,zL s k hlt HA (by omega) (by omega)⟩
    case measure=>simp[intOf];omega
   ·go_ret;exact⟨gG (sT s k hlt (Or.inl ‹_›)),rfl⟩
  ·go_wp2;all_goals
    go_ret;refine⟨gG ?_,rfl⟩;rw[Gb s k hlt HA.out];go_light;first|(simp[*];done)|(simp;omega)
theorem pQ(k n:Int)(s:ByteArray)(w:World):Calls prog 82 #[.agg #[.int .i64 k,.int .i64 n,.string s]] w fun e w'=>e=.returned (.bool (iA k n s))/\Below w.heap.size w w':=by
 go_enter func82,ntmps82;go_wp2;all_goals
  go_ret;refine⟨gG ?_,(Below.refl _ _).alloc lZ _⟩;go_light;simp_all[iA]
theorem sN(k n:Int)(s:ByteArray)(w:World):Calls prog 86 #[.agg #[.int .i64 k,.int .i64 n,.string s]] w fun e w'=>e=.returned (.bool (iA k n s))/\Below w.heap.size w w':=by
 go_enter func86,ntmps86;go_wp2;all_goals
  go_ret;refine⟨gG ?_,(Below.refl _ _).alloc lZ _⟩;go_light;simp_all[iA]
theorem Cs(n:Int)(w:World):Calls prog 7 #[.int .i64 n] w fun e w'=>e=.returned (.agg #[.string ⟨#[115,105,122,101]⟩,.int .i64 6,.int .i64 1,.int .i64 n,.string ⟨#[]⟩])/\Gr w w':=by go_enter func7,ntmps7;go_wp2;exact bodyPost_ret (v:=.agg #[.string ⟨#[115,105,122,101]⟩,.int .i64 6,.int .i64 1,.int .i64 n,.string ⟨#[]⟩]) (by simp[results,results7,go_sem]) rfl ⟨rfl,(Gr.refl w).alloc _⟩
theorem zQ(k n:Int)(s:ByteArray)(w:World):Calls prog 67 #[.agg #[.int .i64 k,.int .i64 n,.string s]] w fun e w'=>e=.returned (.agg #[.int .i64 k,.int .i64 n,.string s]) /\w'=(w.alloc (.cells #[.int .i64 k,.int .i64 n,.string s] 45)).alloc (.cells #[.int .i64 k,.int .i64 n,.string s] 84):=by go_enter func67,ntmps67;go_wp2;exact bodyPost_ret (v:=.agg #[.int .i64 k,.int .i64 n,.string s]) (by simp[results,results67,go_sem]) rfl ⟨rfl,rfl⟩
theorem wT(a:ByteArray)(y k n:Int)(s:ByteArray)(w:World):Calls prog 34 #[.agg #[.string a,.int .i64 y,.int .i64 k,.int .i64 n,.string s]] w fun e w'=>e=.returned (.agg #[.string a,.int .i64 y,.int .i64 k,.int .i64 n,.string s])/\Gr w w':=by
 go_enter func34,ntmps34;go_wp2;go_region_held3(fun w'=>w'.cell? ⟨w.heap.size,0,none⟩=some (.string a)/\w'.cell? ⟨w.heap.size,1,none⟩=some (.int .i64 y)/\w'.cell? ⟨w.heap.size,2,none⟩=some (.int .i64 k)/\w'.cell? ⟨w.heap.size,3,none⟩=some (.int .i64 n)/\w'.cell? ⟨w.heap.size,4,none⟩=some (.string s)) (simp[go_sem,World.cell?_alloc_past]) (first|(go_at_call 67;refine(zQ _ _ _ _).mono ?_;rintro e w1 ⟨rfl,rfl⟩));all_goals
  go_wp2;refine bodyPost_ret (v:=.agg #[.string a,.int .i64 y,.int .i64 k,.int .i64 n,.string s]) (by simp[results,results34,go_sem]) rfl ⟨rfl,?_⟩;repeat(first|exact gZ|apply Gr.drew|apply Gr.alloc)
theorem rV(a:ByteArray)(k n:Int)(s:ByteArray)(w:World):Calls prog 33 #[.agg #[.string a,.int .i64 k,.int .i64 n,.string s]] w fun e w'=>e=.returned (.agg #[.string a,.int .i64 k,.int .i64 n,.string s])/\Gr w w':=by
 go_enter func33,ntmps33;go_wp2;go_region_held3(fun w'=>w'.cell? ⟨w.heap.size,0,none⟩=some (.string a)/\w'.cell? ⟨w.heap.size,1,none⟩=some (.int .i64 k)/\w'.cell? ⟨w.heap.size,2,none⟩=some (.int .i64 n)/\w'.cell? ⟨w.heap.size,3,none⟩=some (.string s)) (simp[go_sem,World.cell?_alloc_past]) (first|(go_at_call 67;refine(zQ _ _ _ _).mono ?_;rintro e w1 ⟨rfl,rfl⟩));all_goals
  go_wp2;refine bodyPost_ret (v:=.agg #[.string a,.int .i64 k,.int .i64 n,.string s]) (by simp[results,results33,go_sem]) rfl ⟨rfl,?_⟩;repeat(first|exact gZ|apply Gr.drew|apply Gr.alloc)
end Go.Proofs.YtecnfgikbmcgoabGreat
