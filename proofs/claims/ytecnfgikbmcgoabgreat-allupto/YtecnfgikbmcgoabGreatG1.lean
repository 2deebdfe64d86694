import Derived.Lib.IndexMore
import Derived.WalkSmall
import Derived.WalkSpells
import Derived.Deep.AppendLies
import Derived.Test.YtecnfgikbmcgoabGreatRows
import Derived.DeepKeys4
set_option maxHeartbeats 8000000
set_option maxRecDepth 100000
namespace Go.Proofs.YtecnfgikbmcgoabGreat
open Go.Proofs.Tryz
open Go.RowKit
variable {base i j:Nat}{o':Obj}{w w':World}{α:Type}
theorem cZ{g:Nat}{cs:Array Value}{t:TypeId}{fr:Nat×Nat}(h:w.heap[g]?=some (.cells cs t fr)):w.cell? ⟨g,j,none⟩=cs[j]?:=cell_of_row _ _ _ _ _ _ h
theorem oZ{a b:α}(h:some a=some b):a=b:=Option.some.inj h
theorem hZ{p:Prop}(h:p):Hid p:=h
theorem lZ{n:Nat}:n<=n:=Nat.le_refl n
theorem zZ{n:Nat}:0<=n:=Nat.zero_le n
abbrev aA:=@Nat.le_trans
abbrev aB:=@List.length_map
abbrev aC:=@List.mem_map
abbrev aE:=@List.mem_append
abbrev aF:=@Nat.lt_of_lt_of_le
abbrev aG:=@List.length_append
abbrev aH:=@World.ownsRow.cellAt
abbrev aI:=@List.getD_eq_getElem?_getD
abbrev aJ:=@List.getElem?_eq_getElem
abbrev aK:=@World.ownsRow.frozenAt
abbrev aM:=@List.mem_singleton
abbrev aN:=@List.mem_cons
abbrev aO:=@List.getElem?_map
abbrev aP:=@Bool.and_eq_true
abbrev aQ:=@List.mem_map_of_mem
abbrev aS:=@List.map_append
abbrev aU:=@List.append_assoc
abbrev aV:=@List.take_of_length_le
abbrev aW:=@List.take_succ_eq_append_getElem
abbrev aX:=@List.length_filter_le
abbrev aY:=@List.mem_filter
abbrev aZ:=@List.append_nil
abbrev bA:=@List.length_cons
abbrev bB:=@List.take_length
abbrev bC:=@List.mem_cons_self
abbrev bD:=@List.cons_append
abbrev bE:=@List.mem_cons_of_mem
abbrev bF:=@World.ownsRow_nil
abbrev bG:=@List.getElem_of_mem
abbrev bH:=@List.map_cons
abbrev bI:=@World.ownsRow.stored
abbrev bJ:=@Nat.mul_le_mul_right
abbrev bL:=@Array.getElem?_eq_some_iff
abbrev bM:=@List.nil_append
abbrev bN:=@List.getElem?_eq_some_iff
abbrev bO:=@Bool.false_eq_true
abbrev bP:=@List.take_succ_cons
abbrev bQ:=@List.drop_succ_cons
abbrev bR:=@List.length_set
abbrev bS:=@List.getElem?_append_right
abbrev bT:=@List.any_eq_true
abbrev bU:=@Array.getElem?_eq_getElem
abbrev bV:=@List.map_map
abbrev bW:=@Bool.not_eq_true'
abbrev bX:=@List.drop_zero
abbrev bY:=@List.take_zero
abbrev bZ:=@List.pairwise_iff_getElem
abbrev cA:=@Array.getElem?_toList
abbrev cB:=@List.pairwise_map
abbrev cC:=@List.map_congr_left
abbrev cD:=@Nat.le_succ
abbrev cE:=@Nat.zero_add
abbrev cF:=@List.length_nil
abbrev cG:=@Nat.lt_or_ge
abbrev cJ:=@List.all_eq_true
abbrev cL:=@Nat.not_lt_zero
abbrev cM:=@Int.toNat_natCast
abbrev cN:=@Bool.or_eq_true
abbrev cO:=@Classical.byContradiction
abbrev cP:=@Prod.mk.injEq
abbrev cQ:=@List.flatMap_cons
abbrev cR:=@Array.toList_setIfInBounds
abbrev cS:=@List.size_toArray
abbrev cU:=@List.drop_eq_getElem_cons
abbrev cV:=@List.getElem?_append_left
abbrev cW:=@List.pairwise_cons
abbrev cX:=@List.take_set_of_le
abbrev cY:=@Result.andThen_ok
abbrev dB:=@List.length_eq_zero_iff
abbrev dC:=@World.block_lt_of_cell?
abbrev dD:=@List.mem_of_getElem?
abbrev dE:=@Option.map_some
abbrev dF:=@List.nodup_append
abbrev dG:=@Classical.not_not
abbrev dH:=@Nat.add_assoc
abbrev dI:=@List.map_nil
abbrev dJ:=@List.cons.injEq
abbrev dK:=@List.length_take_le'
abbrev dL:=@World.size_alloc
abbrev dM:=@Array.getElem?_eq_none
abbrev dN:=@Option.some.injEq
abbrev dO:=@Array.length_toList
abbrev dP:=@List.eq_nil_of_length_eq_zero
abbrev dQ:=@List.length_take
abbrev dR:=@List.not_mem_nil
abbrev dT:=@List.filter_append
abbrev dU:=@Bool.false_and
abbrev dV:=@List.getElem?_set
abbrev dX:=@Int.natCast_inj
abbrev dY:=@List.length_drop
abbrev dZ:=@List.take_append_drop
abbrev eA:=@DataW.trod_int
abbrev eB:=@Nat.add_mul
abbrev eC:=@Nat.lt_trichotomy
abbrev eD:=@Bool.true_and
abbrev eE:=@List.getElem?_cons_zero
abbrev eF:=@List.mem_range
abbrev eG:=@List.getElem_mem
abbrev eI:=@Nat.mul_le_mul
abbrev eJ:=@Nat.zero_mul
abbrev eK:=@Bool.and_eq_false_iff
abbrev eL:=@Bool.eq_iff_iff
abbrev eM:=@Nat.zero_lt_one
abbrev eN:=@List.getElem?_eq_none
abbrev eO:=@List.isPrefixOf_iff_prefix
abbrev eP:=@List.ext_getElem?
abbrev eQ:=@Function.comp_def
abbrev eR:=@List.pairwise_append
abbrev eU:=@List.map_eq_cons_iff
abbrev eV:=@Option.getD_some
abbrev eW:=@List.filter_cons
abbrev eX:=@Array.getElem?_setIfInBounds_ne
abbrev eY:=@List.pairwise_singleton
abbrev eZ:=@Nat.add_sub_cancel_left
abbrev fA:=@Bool.false_or
abbrev fB:=@List.nodup_cons
abbrev fC:=@List.eq_nil_iff_forall_not_mem
abbrev fD:=@List.getElem?_take
abbrev fE:=@List.set_cons_succ
abbrev fF:=@List.filter_eq_nil_iff
abbrev fG:=@List.all_eq_false
abbrev fH:=@List.Pairwise.imp
abbrev fI:=@Nat.add_zero
abbrev fJ:=@List.getElem?_toArray
abbrev fK:=@List.take_left
abbrev fL:=@List.set_append_right
abbrev fM:=@Array.getElem?_setIfInBounds
abbrev fN:=@List.length_singleton
abbrev fO:=@Array.getElem?_append_left
abbrev fQ:=@List.drop_set_of_lt
abbrev fR:=@List.mem_or_eq_of_mem_set
abbrev fS:=@List.getElem?_replicate
abbrev fU:=@DataW.trod_struct
abbrev fV:=@World.cells?_some
abbrev fW:=@Bool.or_false
abbrev fX:=@World.cell?_spot
theorem gG{a b:Bool}(h:a=b):Ending.returned (.bool a)=.returned (.bool b):=by rw[h]
theorem jE{k:IntKind}{a b:Int}(h:a=b):Ending.returned (.int k a)=.returned (.int k b):=by rw[h]
theorem gP{W w1:World}(hb:Below W.heap.size W w1):(∀b o,b<W.heap.size->w1.cell? ⟨b,o,none⟩=W.cell? ⟨b,o,none⟩)/\(∀b o,b<W.heap.size->w1.frozen? ⟨b,o,none⟩=W.frozen? ⟨b,o,none⟩):=⟨fun b o h=>hb.cell (p:=⟨b,o,none⟩) h,fun b o h=>hb.frozen (p:=⟨b,o,none⟩) h⟩
def oQ(c:UInt8):Bool:=decide (97<=(c.toNat:Int))&&decide ((c.toNat:Int)<=122)
def lI(a:ByteArray):Bool:=decide (1<=(a.size:Int))&&decide ((a.size:Int)<=16)&&a.data.toList.all oQ
theorem Nn(s:ByteArray)(k:Nat)(h:k<s.size):s.data.toList.take (k+1)=s.data.toList.take k++[s[k]]:=by rw[aW (by simpa using h)];rfl
theorem zL(s:ByteArray)(k:Nat)(h:k<s.size)(hk:(s.data.toList.take k).all oQ=true)(h1:97<=(s[k].toNat:Int))(h2:(s[k].toNat:Int)<=122):(s.data.toList.take (k+1)).all oQ=true:=by rw[Nn s k h,List.all_append,hk];simp[oQ];omega
theorem zI(s:ByteArray)(h:(s.size:Int)<1\/16<(s.size:Int)):false=lI s:=by
 rcases h with h|h
 ·have:decide (1<=(s.size:Int))=false:=by simp;omega
  simp[lI,this]
 ·have:decide ((s.size:Int)<=16)=false:=by simp;omega
  simp[lI,this]
theorem sT(s:ByteArray)(k:Nat)(h:k<s.size)(hb:(s[k].toNat:Int)<97\/122<(s[k].toNat:Int)):false=lI s:=by
 have hl:oQ s[k]=false:=by
  rcases hb with hb|hb
  ·(have:decide (97<=(s[k].toNat:Int))=false:=by simp;omega);simp only[oQ,this,dU]
  ·(have:decide ((s[k].toNat:Int)<=122)=false:=by simp;omega);simp only[oQ,this,Bool.and_false]
 have:s.data.toList.all oQ=false:=by rw[fG];exact⟨s[k],by simp[ByteArray.getElem_eq_getElem_data],by simp[hl]⟩
 simp[lI,this]
theorem Gb(s:ByteArray)(k:Nat)(h:¬k<s.size)(hk:(s.data.toList.take k).all oQ=true):lI s=(decide (1<=(s.size:Int))&&decide ((s.size:Int)<=16)):=by rw[aV (by simp;omega)] at hk;simp[lI,hk]
def iA(k n:Int)(s:ByteArray):Bool:=(k==1&&s.toList.isEmpty)||(k==2&&n==0&&decide ((s.size:Int)<=32))||(k==3&&s.toList.isEmpty&&(n==0||n==1))
def gV(y k n:Int)(s:ByteArray):Bool:=(y==1&&(k==0&&n==0&&s.toList.isEmpty))||((y==2||y==3)&&iA k n s) || (decide (4<=y)&&decide (y<=7)&&k==1&&iA k n s)||(decide (8<=y)&&decide (y<=10)&&k==2&&iA k n s)
def jK(a:ByteArray)(y k n:Int)(s:ByteArray):Bool:=lI a&&gV y k n s
theorem Bj(y k n:Int)(s:ByteArray)(h:y<1\/10<y):gV y k n s=false:=by
 have e1:(y==1)=false:=by simp;omega
 have e2:(y==2)=false:=by simp;omega
 have e3:(y==3)=false:=by simp;omega
 have e4:(decide (4<=y)&&decide (y<=7))=false:=by simp;omega
 have e5:(decide (8<=y)&&decide (y<=10))=false:=by simp;omega
 simp only[gV,e1,e2,e3,e4,e5,dU,fW]
theorem uB(y k n:Int)(s:ByteArray)(h:8<=y)(h':y<=10):gV y k n s=(k==2&&iA k n s):=by
 have e1:(y==1)=false:=by simp;omega
 have e2:(y==2)=false:=by simp;omega
 have e3:(y==3)=false:=by simp;omega
 have e4:(decide (4<=y)&&decide (y<=7))=false:=by simp;omega
 have e5:(decide (8<=y)&&decide (y<=10))=true:=by simp;omega
 simp only[gV,e1,e2,e3,e4,e5,dU,fW,fA,eD]
theorem vQ(y k n:Int)(s:ByteArray)(h:4<=y)(h':y<=7):gV y k n s=(k==1&&iA k n s):=by
 have e1:(y==1)=false:=by simp;omega
 have e2:(y==2)=false:=by simp;omega
 have e3:(y==3)=false:=by simp;omega
 have e4:(decide (4<=y)&&decide (y<=7))=true:=by simp;omega
 have e5:(decide (8<=y)&&decide (y<=10))=false:=by simp;omega
 simp only[gV,e1,e2,e3,e4,e5,dU,fW,fA,eD]
theorem Bp(y k n:Int)(s:ByteArray)(h:2<=y)(h':y<=3):gV y k n s=iA k n s:=by
 have e1:(y==1)=false:=by simp;omega
 have e2:(y==2||y==3)=true:=by simp;omega
 have e4:(decide (4<=y)&&decide (y<=7))=false:=by simp;omega
 have e5:(decide (8<=y)&&decide (y<=10))=false:=by simp;omega
 simp only[gV,e1,e2,e4,e5,dU,fW,fA,eD]
theorem sM(k n:Int)(s:ByteArray):gV 1 k n s=(k==0&&n==0&&s.toList.isEmpty):=by simp[gV]
def gT(y k n:Int)(s:ByteArray)(k' n':Int)(s':ByteArray):Bool:=
 if y==1 then true
 else if k != k' then false
 else if y==2 then n'==n&&s'.toList==s.toList
 else if y==3 then !(n'==n&&s'.toList==s.toList)
 else if y==4 then decide (n'<n)
 else if y==5 then decide (n'<=n)
 else if y==6 then decide (n<n')
 else if y==7 then decide (n<=n')
 else if y==8 then Lib.hasPrefix s'.data.toList s.data.toList
 else if y==9 then Lib.hasSuffix s'.data.toList s.data.toList
 else Lib.contains s'.data.toList s.data.toList
theorem mR{y k n:Int}{s:ByteArray}(h:gV y k n s=true):y=1\/y=2\/y=3\/y=4\/y=5\/y=6\/y=7\/y=8\/y=9\/y=10:=by
 by_cases h1:y<1\/10<y
 ·rw[Bj y k n s h1] at h;cases h
 ·omega
theorem sL{y k n:Int}{s:ByteArray}(h:gV y k n s=true)(h4:4<=y)(h7:y<=7):k=1/\s.toList=[]:=by rw[vQ y k n s h4 h7] at h;simp[iA] at h;obtain⟨rfl,h⟩:=h;simpa using h
theorem Qm{y k n:Int}{s:ByteArray}(h:gV y k n s=true)(h4:8<=y)(h7:y<=10):k=2/\n=0/\s.size<=32:=by rw[uB y k n s h4 h7] at h;simp[iA] at h;obtain⟨rfl,h⟩:=h;simp at h;omega
theorem Ld{y k n:Int}{s:ByteArray}(h:gV y k n s=true)(h4:2<=y)(h7:y<=3):iA k n s=true:=by rwa[Bp y k n s h4 h7] at h
theorem oH{k n:Int}{s:ByteArray}(h:iA k n s=true):s.size<=32:=by
 have he:s.toList=[]->s.size=0:=fun e=>by rw[ByteArray.toList_eq] at e;have:=congrArg List.length e;simpa using this
 simp[iA] at h;rcases h with(h|h)|h
 ·rw[he h.2];omega
 ·omega
 ·rw[he h.1.2];omega
theorem pB{n:Int}{s:ByteArray}(h:iA 1 n s=true):s.toList=[]:=by simpa[iA] using h
def atB(s:ByteArray)(i:Int)(t:ByteArray):Bool:=decide (0<=i)&&decide (i+t.size<=s.size)&&((s.extract i.toNat (i.toNat+t.size)).toList==t.toList)
theorem Ej(s:ByteArray)(i:Int)(t:ByteArray)(h:i<0\/(s.size:Int)<i+t.size):atB s i t=false:=by
 rcases h with h|h
 ·have:decide (0<=i)=false:=by simp;omega
  simp[atB,this]
 ·have:decide (i+t.size<=s.size)=false:=by simp;omega
  simp[atB,this]
theorem Km(s:ByteArray)(j:Nat)(t:ByteArray)(h:j+t.size<=s.size):atB s (j:Int) t=((s.extract j (j+t.size)).toList==t.toList):=by
 have h1:decide (0<=(j:Int))=true:=by simp
 have h2:decide ((j:Int)+t.size<=s.size)=true:=by simp;omega
 simp only[atB,h1,h2,eD,cM]
theorem Ei(s:ByteArray)(j:Nat)(t:ByteArray)(hj:j<=s.size):atB s (j:Int) t=Lib.occAt s.data.toList t.data.toList j:=by
 by_cases h:j+t.size<=s.size
 ·rw[Km s j t h,Lib.occ_of_piece s t j h]
 ·rw[Ej s j t (by omega)];cases ho:Lib.occAt s.data.toList t.data.toList j with
  |false=>rfl
  |true=>
   rcases Lib.occAt_room ho with h'|h'
   ·simp at h';omega
   ·(have e:t.size=t.data.toList.length:=by simp);rw[h',cF] at e;omega
theorem Kj(s t:ByteArray):atB s 0 t=Lib.hasPrefix s.data.toList t.data.toList:=by rw[show(0:Int)=((0:Nat):Int) from rfl,Ei s 0 t zZ];unfold Lib.occAt Lib.hasPrefix;rw[bX]
theorem Ki(s t:ByteArray):atB s ((s.size:Int)-t.size) t=Lib.hasSuffix s.data.toList t.data.toList:=by
 rw[<-Lib.hasSuffix_raw];by_cases h:t.size<=s.size
 ·have e:((s.size:Int)-t.size)=((s.size-t.size:Nat):Int):=by omega
  rw[e,Km s (s.size-t.size) t (by omega)];have e2:s.size-t.size+t.size=s.size:=by omega
  simp[e2,h]
 ·rw[Ej s _ t (by omega)];simp[h]
theorem Ed(s t:ByteArray)(j:Nat)(hj:j<=s.size)(h:atB s (j:Int) t=true):Lib.contains s.data.toList t.data.toList=true:=by
 rw[Ei s j t hj] at h;rcases Lib.index_spec s.data.toList t.data.toList with⟨_,h'⟩|⟨i,h',_⟩
 ·rw[h' j (by simpa using hj)] at h;cases h
 ·simp[Lib.contains,h']
theorem Hk(s t:ByteArray)(h:∀j:Nat,j<=s.size->atB s (j:Int) t=false):Lib.contains s.data.toList t.data.toList=false:=by
 have:Lib.index s.data.toList t.data.toList=-1:=Lib.index_none fun j hj=>by rw[<-Ei s j t (by simpa using hj)];exact h j (by simpa using hj)
 simp[Lib.contains,this]
structure Ml(m:Int)(w:World):Prop where
 cell:w.cell? ⟨0,0,none⟩=some (.int .i64 m)
 pos:0<w.heap.size
theorem Ml.below{m:Int}(h:Ml m w)(hb:Below w.heap.size w w'):Ml m w':=⟨by rw[<-h.cell];exact hb.cell (p:=⟨0,0,none⟩) h.pos,aF h.pos hb.size⟩
theorem Ml.alloc{m:Int}(h:Ml m w)(o:Obj):Ml m (w.alloc o):=h.below ((Below.refl _ _).alloc lZ o)
theorem Ml.drew{m:Int}(h:Ml m w):Ml m w.drew:=h.below (Below.refl _ _).drew
abbrev Gr(a w:World):Prop:=Below a.heap.size a w
theorem Gr.refl(a:World):Gr a a:=Below.refl _ _
theorem gZ{a:World}:Gr a a:=Below.refl _ _
theorem Gr.alloc{a:World}(h:Gr a w)(o:Obj):Gr a (w.alloc o):=Below.alloc h h.size o
theorem Gr.drew{a:World}(h:Gr a w):Gr a w.drew:=Below.drew h
theorem Gr.call{a:World}(h:Gr a w)(k:Gr w w'):Gr a w':=Below.trans h (Below.mono k h.size)
theorem Gr.lt{a:World}(h:Gr a w){n:Nat}(hn:n<a.heap.size):n<w.heap.size:=aF hn h.size
theorem Gr.ml{m:Int}{a:World}(h:Gr a w)(k:Ml m a):Ml m w:=k.below h
theorem Rh{a b:Nat}(h:a+3<=b):a<b/\a+1<b/\a+2<b:=by omega
def iI:Int:=-9223372036854775808
def iM:Int:=9223372036854775807
def gM:ByteArray:=⟨#[]⟩
theorem iG:gM.toList=[]:=by rw[ByteArray.toList_eq];rfl
def iS(y n:Int):Bool:=(y==4&&n==iI)||(y==6&&n==iM)
def lE(y n:Int):Int:=
 if y==2 then n else if y==3 then(if n==iI then iI+1 else iI) else if y==6 then n+1 else if y==7 then n else iI
def lN(y n:Int):Int:=
 if y==2 then n else if y==3 then(if n==iM then iM-1 else iM) else if y==4 then n-1 else if y==5 then n else iM
def nJ(y n y' n':Int)(s':ByteArray):Bool:=gT y' 1 n' s' 1 (lE y n) gM&&gT y' 1 n' s' 1 (lN y n) gM
def qO(y:Int)(s:ByteArray)(y':Int)(s':ByteArray):Bool:=
 if y==3 then y' != 2&&s'.toList.isEmpty
 else if !gT y' 2 0 s' 2 0 s then false
 else if y==2||((s.size:Int)==32) then true
 else if y'==2 then false
 else y'==10||y'==y||s'.toList.isEmpty
def tT(y n:Int)(s:ByteArray)(y' n':Int)(s':ByteArray):Bool:=!(gT y 3 n s 3 0 gM&&!gT y' 3 n' s' 3 0 gM)&&!(gT y 3 n s 3 1 gM&&!gT y' 3 n' s' 3 1 gM)
def jB(y k n:Int)(s:ByteArray)(y' k' n':Int)(s':ByteArray):Bool:=
 if y'==1||iS y n then true
 else if y==1||k != k' then false
 else if y'==3 then !gT y k n s k' n' s'
 else if k==1 then nJ y n y' n' s'
 else if k==2 then qO y s y' s'
 else tT y n s y' n' s'
def nX(a:ByteArray)(y k n:Int)(s a':ByteArray)(y' k' n':Int)(s':ByteArray):Bool:=jK a y k n s&&jK a' y' k' n' s'&&(a.toList==a'.toList)&&jB y k n s y' k' n' s'
theorem Ez{y:Int}{s:ByteArray}(h:gV y 2 0 s=true):iA 2 0 s=true:=by
 have hc:=mR h;by_cases h1:y=1
 ·subst h1;simp[sM] at h
 ·by_cases h3:y<=3
  ·exact Ld h (by omega) h3
  ·by_cases h7:y<=7
   ·have:=sL h (by omega) h7;omega
   ·rw[uB y 2 0 s (by omega) (by omega)] at h;simpa using h
theorem Zh{a b c d:Int}(h1:a=c)(h2:b=d):Ending.returned (.tuple #[.int .i64 a,.int .i64 b])=.returned (.tuple #[.int .i64 c,.int .i64 d]):=by rw[h1,h2]
theorem mX{y k n:Int}{s:ByteArray}(h:gV y k n s=true)(h1:y≠1):iA k n s=true:=by
 have hc:=mR h;by_cases h3:y<=3
 ·exact Ld h (by omega) h3
 ·by_cases h7:y<=7
  ·rw[vQ y k n s (by omega) h7] at h;simp at h;exact h.2
  ·rw[uB y k n s (by omega) (by omega)] at h;simp at h;exact h.2
theorem rJ{k n:Int}{s:ByteArray}(h:iA k n s=true):k=1\/k=2\/k=3:=by simp[iA] at h;omega
theorem mF{n:Int}{s:ByteArray}(h:iA 2 n s=true):n=0:=by simp[iA] at h;omega
theorem yE{n:Int}{s:ByteArray}(h:iA 3 n s=true):(n=0\/n=1)/\s.toList=[]:=by simp[iA] at h;exact⟨h.2,h.1⟩
theorem sK{y n:Int}{s:ByteArray}(h:gV y 1 n s=true)(h1:y≠1):2<=y/\y<=7:=by
 have hc:=mR h;by_cases h7:y<=7
 ·omega
 ·have:=Qm h (by omega) (by omega);omega
structure Wnt where
 a:ByteArray
 y:Int
 k:Int
 n:Int
 s:ByteArray
structure Atr where
 a:ByteArray
 k:Int
 n:Int
 s:ByteArray
def dW:Wnt:=⟨⟨#[]⟩,0,0,0,⟨#[]⟩⟩
def dA:Atr:=⟨⟨#[]⟩,0,0,⟨#[]⟩⟩
def wat(l:List Wnt)(i:Nat):Wnt:=l.getD i dW
def aat(l:List Atr)(i:Nat):Atr:=l.getD i dA
structure Wnt.Wf(x:Wnt):Prop where
 a:x.a.size<=maxLen
 s:x.s.size<=maxLen
 n1:iI<=x.n
 n2:x.n<=iM
structure Atr.Wf(x:Atr):Prop where
 a:x.a.size<=maxLen
 s:x.s.size<=maxLen
 n1:iI<=x.n
 n2:x.n<=iM
def iD(w:World)(b off:Nat)(l:List Wnt):Prop:=∀i,i<l.length->w.cell? ⟨b,off+i*5,none⟩=some (.string (wat l i).a)/\w.cell? ⟨b,off+i*5+1,none⟩=some (.int .i64 (wat l i).y) /\w.cell? ⟨b,off+i*5+1+1,none⟩=some (.int .i64 (wat l i).k)/\w.cell? ⟨b,off+i*5+1+1+1,none⟩=some (.int .i64 (wat l i).n) /\w.cell? ⟨b,off+i*5+1+1+1+1,none⟩=some (.string (wat l i).s)
def iP(w:World)(b off:Nat)(l:List Atr):Prop:=∀i,i<l.length->w.cell? ⟨b,off+i*4,none⟩=some (.string (aat l i).a) /\w.cell? ⟨b,off+i*4+1,none⟩=some (.int .i64 (aat l i).k)/\w.cell? ⟨b,off+i*4+1+1,none⟩=some (.int .i64 (aat l i).n) /\w.cell? ⟨b,off+i*4+1+1+1,none⟩=some (.string (aat l i).s)
theorem iD.gr{b off:Nat}{l:List Wnt}(h:iD w b off l)(g:Gr w w')(hb:b<w.heap.size):iD w' b off l:=fun i hi=>by obtain⟨h1,h2,h3,h4,h5⟩:=h i hi;obtain⟨hc,_⟩:=gP g;rw[hc b _ hb,hc b _ hb,hc b _ hb,hc b _ hb,hc b _ hb];exact⟨h1,h2,h3,h4,h5⟩
theorem iP.gr{b off:Nat}{l:List Atr}(h:iP w b off l)(g:Gr w w')(hb:b<w.heap.size):iP w' b off l:=fun i hi=>by obtain⟨h1,h2,h3,h4⟩:=h i hi;obtain⟨hc,_⟩:=gP g;rw[hc b _ hb,hc b _ hb,hc b _ hb,hc b _ hb];exact⟨h1,h2,h3,h4⟩
theorem jZ{l:List α}(h:i<l.length)(d:α):l.getD i d∈l:=by simp[List.getD_eq_getElem?_getD,List.getElem?_eq_getElem h]
theorem jP{l:List Wnt}(h:i<l.length):wat l i∈l:=jZ h dW
theorem pJ{l:List Atr}(h:i<l.length):aat l i∈l:=jZ h dA
def wOk(x:Wnt):Bool:=jK x.a x.y x.k x.n x.s
def gN(l:List Wnt):Bool:=decide (1<=(l.length:Int))&&decide ((l.length:Int)<=6)&&l.all wOk
def chk(l:List Wnt):Int:=if gN l then 0 else 2
theorem vI{l:List Wnt}(h:(l.length:Int)<1\/6<(l.length:Int)):chk l=2:=by
 have:gN l=false:=by
  rcases h with h|h
  ·(have e:decide (1<=(l.length:Int))=false:=by simp;omega);simp only[gN,e,dU]
  ·(have e:decide ((l.length:Int)<=6)=false:=by simp;omega);simp only[gN,e,dU,Bool.and_false]
 simp[chk,this]
theorem lQ(p:α->Bool)(l:List α)(k:Nat)(d:α)(h:k<l.length)(hk:(l.take k).all p=true)(hp:p (l.getD k d)=true):(l.take (k+1)).all p=true:=by rw[aW h,List.all_append,hk];simp[List.getD_eq_getElem?_getD,List.getElem?_eq_getElem h] at hp;simp[hp]
theorem oV(p:α->Bool)(l:List α)(k:Nat)(d:α)(h:k<l.length)(hp:p (l.getD k d)=false):l.all p=false:=by rw[fG];exact⟨_,jZ h d,by rw[hp];simp⟩
theorem qW(p:α->Bool)(l:List α)(k:Nat)(h:¬k<l.length)(hk:(l.take k).all p=true):l.all p=true:=by rwa[aV (by omega)] at hk
theorem Hu{l:List Wnt}(k:Nat)(h:k<l.length)(hp:wOk (wat l k)=false):chk l=2:=by simp[chk,gN,oV wOk l k dW h hp]
theorem My{l:List Wnt}(k:Nat)(h:¬k<l.length)(h1:1<=(l.length:Int))(h2:(l.length:Int)<=6)(hk:(l.take k).all wOk=true):chk l=0:=by
 have e1:decide (1<=(l.length:Int))=true:=by simpa using h1
 have e2:decide ((l.length:Int)<=6)=true:=by simpa using h2
 simp[chk,gN,e1,e2,qW wOk l k h hk]
theorem Gr.drewN{a:World}(h:Gr a w)(n:Nat):Gr a (w.drewN n):=below_drewN h n
def nP(l:List Atr)(i:Nat):Bool:=lI (aat l i).a&&iA (aat l i).k (aat l i).n (aat l i).s&&(i==0||Op.bytesLess (aat l (i-1)).a.toList (aat l i).a.toList)
def kZ(l:List Atr):Bool:=decide (1<=(l.length:Int))&&decide ((l.length:Int)<=8)&&(List.range l.length).all (nP l)
def oB(l:List Atr):Int:=if kZ l then 0 else 1
theorem tB{l:List Atr}(h:(l.length:Int)<1\/8<(l.length:Int)):oB l=1:=by
 have:kZ l=false:=by
  rcases h with h|h
  ·(have e:decide (1<=(l.length:Int))=false:=by simp;omega);simp only[kZ,e,dU]
  ·(have e:decide ((l.length:Int)<=8)=false:=by simp;omega);simp only[kZ,e,dU,Bool.and_false]
 simp[oB,this]
theorem oE{l:List Atr}(k:Nat)(h:k<l.length)(hp:nP l k=false):oB l=1:=by
 have:(List.range l.length).all (nP l)=false:=by rw[fG];exact⟨k,by simpa using h,by simp[hp]⟩
 simp[oB,kZ,this]
theorem qR{l:List Atr}(k:Nat)(hk:(List.range k).all (nP l)=true)(hp:nP l k=true):(List.range (k+1)).all (nP l)=true:=by rw[List.range_succ,List.all_append,hk];simp[hp]
theorem Hx{l:List Atr}(k:Nat)(h:¬k<l.length)(hk':k<=l.length)(h1:1<=(l.length:Int))(h2:(l.length:Int)<=8)(hk:(List.range k).all (nP l)=true):oB l=0:=by
 have e:k=l.length:=by omega
 subst e;have e1:decide (1<=(l.length:Int))=true:=by simpa using h1
 have e2:decide ((l.length:Int)<=8)=true:=by simpa using h2
 simp only[oB,kZ,e1,e2,hk,Bool.and_self,if_true]
theorem pI:∀x y:List UInt8,(Op.bytesLess x y||x==y)=!Op.bytesLess y x
 |[],[]=>by simp[Op.bytesLess]
 |[],_::_=>by simp[Op.bytesLess]
 |_::_,[]=>by simp[Op.bytesLess]
 |a::x,b::y=>by
  have ih:=pI x y;by_cases h:a=b
  ·subst h;(have e1:Op.bytesLess (a::x) (a::y)=Op.bytesLess x y:=by simp[Op.bytesLess]);(have e2:Op.bytesLess (a::y) (a::x)=Op.bytesLess y x:=by simp[Op.bytesLess]);(have e3:((a::x)==(a::y))=(x==y):=by simp);rw[e1,e2,e3,ih]
  ·have h':¬b=a:=fun e=>h e.symm;(have e3:((a::x)==(b::y))=false:=by simp[h]);by_cases hl:a<b
   ·(have hl':¬b<a:=by rw[UInt8.lt_iff_toNat_lt] at *;omega);simp[Op.bytesLess,h',hl,hl']
   ·(have hl':b<a:=by rw[UInt8.lt_iff_toNat_lt] at *;have:a.toNat≠b.toNat:=fun e=>h (UInt8.toNat_inj.1 e);omega);simp[Op.bytesLess,h,hl,hl']
def ans:List Atr->Wnt->Bool
 |[],_=>false
 |a::r,x=>if a.a.toList==x.a.toList then gT x.y x.k x.n x.s a.k a.n a.s else ans r x
variable {x:Wnt}
theorem Ik{l:List Atr}(k:Nat)(h:k<l.length)(hn:((aat l k).a.toList==x.a.toList)=true):ans (l.drop k) x=gT x.y x.k x.n x.s (aat l k).k (aat l k).n (aat l k).s:=by
 have e:l.drop k=aat l k::l.drop (k+1):=by rw[cU h];simp[aat,List.getD_eq_getElem?_getD,List.getElem?_eq_getElem h]
 rw[e,ans,if_pos hn]
theorem Ij{l:List Atr}(k:Nat)(h:k<l.length)(hn:((aat l k).a.toList==x.a.toList)=false):ans (l.drop k) x=ans (l.drop (k+1)) x:=by
 have e:l.drop k=aat l k::l.drop (k+1):=by rw[cU h];simp[aat,List.getD_eq_getElem?_getD,List.getElem?_eq_getElem h]
 rw[e,ans,if_neg (by simp[hn])]
theorem Nd{l:List Atr}(k:Nat)(h:¬k<l.length):ans (l.drop k) x=false:=by rw[List.drop_of_length_le (by omega)];rfl
def mat(e:List Atr)(f:List Wnt):Bool:=f.all (ans e)
theorem gO{e:TypeId}{size:Nat}{v:Value}{n:Nat}{xs:List Value}(h:w.ownsRow base e size v n xs)(g:Gr w w'):w'.ownsRow base e size v n xs:=by
 obtain⟨h1,h2⟩:=h;refine⟨h1,?_⟩;rcases h2 with h2|⟨b,cap,cur,hv,hb,hh,r⟩
 ·exact Or.inl h2
 ·refine Or.inr ⟨b,cap,cur,hv,hb,?_,r⟩;have hlt:b<w.heap.size:=by
   rcases cG b w.heap.size with h|h
   ·exact h
   ·rw[dM (by omega)] at hh;cases hh
  rw[g.block b hlt];exact hh
def oW(w:World)(ad:Option Addr)(l:List Wnt):Prop:=l=[]\/∃b off,ad=some ⟨b,off,none⟩/\b<w.heap.size/\iD w b off l
def rA(w:World)(ad:Option Addr)(l:List Atr):Prop:=l=[]\/∃b off,ad=some ⟨b,off,none⟩/\b<w.heap.size/\iP w b off l
theorem oW.gr{ad:Option Addr}{l:List Wnt}(h:oW w ad l)(g:Gr w w'):oW w' ad l:=by
 rcases h with h|⟨b,off,h1,h2,h3⟩
 ·exact Or.inl h
 ·exact Or.inr ⟨b,off,h1,Gr.lt g h2,h3.gr g h2⟩
theorem rA.gr{ad:Option Addr}{l:List Atr}(h:rA w ad l)(g:Gr w w'):rA w' ad l:=by
 rcases h with h|⟨b,off,h1,h2,h3⟩
 ·exact Or.inl h
 ·exact Or.inr ⟨b,off,h1,Gr.lt g h2,h3.gr g h2⟩
def fat(fs:List (List Wnt))(i:Nat):List Wnt:=fs.getD i []
variable {fs:List (List Wnt)}
theorem xX(h:i<fs.length):fat fs i∈fs:=jZ h []
def Cv(w:World)(b off:Nat)(fs:List (List Wnt)):Prop:=∀i,i<fs.length->∃ad cap,w.cell? ⟨b,off+i,none⟩=some (.slice ad (fat fs i).length cap)/\oW w ad (fat fs i)
theorem Cv.gr{b off:Nat}(h:Cv w b off fs)(g:Gr w w')(hb:b<w.heap.size):Cv w' b off fs:=fun i hi=>by obtain⟨ad,cap,h1,h2⟩:=h i hi;exact⟨ad,cap,by rw[(gP g).1 b _ hb];exact h1,h2.gr g⟩
theorem Dc{v:Value}{a b:Int}(h:a=b):Ending.returned (.tuple #[v,.int .i64 a])=.returned (.tuple #[v,.int .i64 b]):=by rw[h]
def nQ(e:List Atr)(fs:List (List Wnt))(k:Nat):List Nat:=(List.range k).filter fun i=>mat e (fat fs i)
def Ba(e:List Atr)(fs:List (List Wnt)):Int:=if kZ e then(if fs.all gN then 0 else 2) else 1
def Ds(e:List Atr)(fs:List (List Wnt)):List Nat:=if Ba e fs=0 then nQ e fs fs.length else[]
def kT(l:List Nat):List Value:=l.map fun i:Nat=>.int .i64 (i:Int)
theorem Tu{e:List Atr}{k:Nat}(h:mat e (fat fs k)=true):nQ e fs (k+1)=nQ e fs k++[k]:=by simp[nQ,List.range_succ,h]
theorem Xp{e:List Atr}{k:Nat}(h:mat e (fat fs k)=false):nQ e fs (k+1)=nQ e fs k:=by simp[nQ,List.range_succ,h]
theorem Mh(e:List Atr)(fs:List (List Wnt))(k:Nat):(nQ e fs k).length<=k:=by have:=aX (fun i=>mat e (fat fs i)) (List.range k);simpa[nQ] using this
theorem wF(l:List Nat)(k:Nat):kT (l++[k])=kT l++[.int .i64 (k:Int)]:=by simp[kT]
theorem Hg{l:List Atr}(h:kZ l=true):(∀z∈l,iA z.k z.n z.s=true)/\l≠[]:=by
 simp only[kZ,aP,cJ] at h;refine⟨fun z hz=>?_,fun e=>?_⟩
 ·obtain⟨i,hi,rfl⟩:=List.mem_iff_getElem.1 hz;have:=h.2 i (by simpa using hi);simp[nP,aat,List.getD_eq_getElem?_getD,List.getElem?_eq_getElem hi] at this;exact this.1.2
 ·subst e;simp at h
theorem oU{l:List Wnt}(h:gN l=true):(∀x∈l,wOk x=true)/\l≠[]:=by simp only[gN,aP,cJ] at h;refine⟨fun x hx=>h.2 x hx,fun e=>?_⟩;subst e;simp at h
def Ey(x:Wnt):List Value:=[.string x.a,.int .i64 x.y,.int .i64 x.k,.int .i64 x.n,.string x.s]
def iN(l:List Wnt):List Value:=l.flatMap Ey
def In(x:Atr):List Value:=[.string x.a,.int .i64 x.k,.int .i64 x.n,.string x.s]
def iK(l:List Atr):List Value:=l.flatMap In
theorem Ew(l:List Wnt)(x:Wnt):iN (l++[x])=iN l++[.string x.a,.int .i64 x.y,.int .i64 x.k,.int .i64 x.n,.string x.s]:=by simp[iN,Ey]
theorem Il(l:List Atr)(x:Atr):iK (l++[x])=iK l++[.string x.a,.int .i64 x.k,.int .i64 x.n,.string x.s]:=by simp[iK,In]
theorem sJ:∀(l:List Wnt)(i:Nat),i<l.length->(iN l)[i*5]?=some (.string (wat l i).a)/\(iN l)[i*5+1]?=some (.int .i64 (wat l i).y)/\(iN l)[i*5+2]?=some (.int .i64 (wat l i).k) /\(iN l)[i*5+3]?=some (.int .i64 (wat l i).n)/\(iN l)[i*5+4]?=some (.string (wat l i).s)
 |[],i,h=>by simp at h
 |x::l,0,_=>by simp[iN,Ey,wat]
 |x::l,i+1,h=>by
  have ih:=sJ l i (by simpa using h);have e:∀j,(iN (x::l))[(i+1)*5+j]?=(iN l)[i*5+j]?:=fun j=>by
   (have:(i+1)*5+j=(i*5+j)+5:=by omega);rw[this];simp[iN,Ey,List.getElem?_cons_succ]
  have e0:=e 0;simp only[fI] at e0;have ew:wat (x::l) (i+1)=wat l i:=by simp[wat]
  rw[e0,e 1,e 2,e 3,e 4,ew];exact ih
theorem tE:∀(l:List Atr)(i:Nat),i<l.length->(iK l)[i*4]?=some (.string (aat l i).a)/\(iK l)[i*4+1]?=some (.int .i64 (aat l i).k) /\(iK l)[i*4+2]?=some (.int .i64 (aat l i).n)/\(iK l)[i*4+3]?=some (.string (aat l i).s)
 |[],i,h=>by simp at h
 |x::l,0,_=>by simp[iK,In,aat]
 |x::l,i+1,h=>by
  have ih:=tE l i (by simpa using h);have e:∀j,(iK (x::l))[(i+1)*4+j]?=(iK l)[i*4+j]?:=fun j=>by
   (have:(i+1)*4+j=(i*4+j)+4:=by omega);rw[this];simp[iK,In,List.getElem?_cons_succ]
  have e0:=e 0;simp only[fI] at e0;have ew:aat (x::l) (i+1)=aat l i:=by simp[aat]
  rw[e0,e 1,e 2,e 3,ew];exact ih
theorem Jg{e:TypeId}{v:Value}{l:List Wnt}(h:w.ownsRow base e 5 v l.length (iN l)):∃ad cap,v=.slice ad l.length cap/\oW w ad l:=by
 rcases h.2 with⟨hv,hn⟩|⟨g,cap,cur,hv,hg,hh,_⟩
 ·exact⟨none,0,by rw[hv,hn],Or.inl (dB.1 hn)⟩
 ·refine⟨some ⟨g,0,none⟩,cap,hv,Or.inr ⟨g,0,rfl,?_,fun i hi=>?_⟩⟩
  ·rcases cG g w.heap.size with h|h
   ·exact h
   ·rw[dM (by omega)] at hh;cases hh
  ·have hc:=fun j (hj:j<l.length*5)=>aH (hv▸h) j hj;obtain⟨h1,h2,h3,h4,h5⟩:=sJ l i hi;simp only[cE];rw[hc (i*5) (by omega),hc (i*5+1) (by omega),hc (i*5+1+1) (by omega),hc (i*5+1+1+1) (by omega),hc (i*5+1+1+1+1) (by omega)];exact⟨h1,h2,h3,h4,h5⟩
theorem Jh{e:TypeId}{v:Value}{l:List Atr}(h:w.ownsRow base e 4 v l.length (iK l)):∃ad cap,v=.slice ad l.length cap/\rA w ad l:=by
 rcases h.2 with⟨hv,hn⟩|⟨g,cap,cur,hv,hg,hh,_⟩
 ·exact⟨none,0,by rw[hv,hn],Or.inl (dB.1 hn)⟩
 ·refine⟨some ⟨g,0,none⟩,cap,hv,Or.inr ⟨g,0,rfl,?_,fun i hi=>?_⟩⟩
  ·rcases cG g w.heap.size with h|h
   ·exact h
   ·rw[dM (by omega)] at hh;cases hh
  ·have hc:=fun j (hj:j<l.length*4)=>aH (hv▸h) j hj;obtain⟨h1,h2,h3,h4⟩:=tE l i hi;simp only[cE];rw[hc (i*4) (by omega),hc (i*4+1) (by omega),hc (i*4+1+1) (by omega),hc (i*4+1+1+1) (by omega)];exact⟨h1,h2,h3,h4⟩
theorem tO{w1:World}{e:TypeId}{size:Nat}{v:Value}{n:Nat}{xs:List Value}{o:Obj}(hb:base=w.heap.size)(h:w1.ownsRow base e size v n xs)(g:Gr w w1)(hg:(w1.alloc o).grownBy w' v.ownBlock):Gr w w':=by
 subst hb;refine Below.grown (g.alloc _) hg (by have:=g.size;simp;omega) (fun b hb=>?_);rcases h.2 with⟨hv,_⟩|⟨q,cap,cur,hv,hq,_⟩
 ·rw[hv] at hb;simp[Value.ownBlock] at hb
 ·rw[hv] at hb;simp[Value.ownBlock] at hb;omega
open Go.Maps (Keyed)
open Go.ChangeMaps (setBlock)
structure Mp(P:Program)(kt:TypeId)(w:World)(B:Nat)(m:List (Value×Value))(es:Array MapEntry)(clock:Nat):Prop where
 blk:w.heap[B]?=some (.map es clock)
 ent:es.toList.map (fun e=>(e.key,e.val))=m
 key:∀e∈es.toList,∃l,keyOf P kt e.key=some l
 nod:(m.map Prod.fst).Nodup
 brn:∀e∈es.toList,e.born<clock
 bnd:(es.toList.map (·.born)).Nodup
section
variable {P:Program}{kt et mt:TypeId}{w:World}{B:Nat}{m:List (Value×Value)}{es:Array MapEntry}{clock:Nat}
theorem Mp.mem(h:Mp P kt w B m es clock){e:MapEntry}(he:e∈es.toList):(e.key,e.val)∈m:=by rw[<-h.ent];exact aC.2 ⟨e,he,rfl⟩
theorem Wr{l:List MapEntry}(h:(l.map (Prod.fst∘fun e:MapEntry=>(e.key,e.val))).Nodup){x y:MapEntry}(hx:x∈l)(hy:y∈l)(e:x.key=y.key):x=y:=by
 induction l with
 |nil=>cases hx
 |cons a t ih=>
  simp only[bH,fB] at h;rcases aN.1 hx with rfl|hx'
  ·rcases aN.1 hy with rfl|hy'
   ·rfl
   ·exact absurd (aC.2 ⟨y,hy',e.symm⟩) h.1
  ·rcases aN.1 hy with rfl|hy'
   ·exact absurd (aC.2 ⟨x,hx',e⟩) h.1
   ·exact ih h.2 hx' hy'
theorem Di{m:List (Value×Value)}(h:(m.map Prod.fst).Nodup){k v v':Value}(h1:(k,v)∈m)(h2:(k,v')∈m):v=v':=by
 induction m with
 |nil=>cases h1
 |cons a t ih=>
  simp only[bH,fB] at h;rcases aN.1 h1 with e1|h1'
  ·rcases aN.1 h2 with e2|h2'
   ·rw[<-e1] at e2;injection e2 with _ e2;exact e2.symm
   ·exact absurd (aC.2 ⟨(k,v'),h2',by rw[<-e1]⟩) h.1
  ·rcases aN.1 h2 with e2|h2'
   ·exact absurd (aC.2 ⟨(k,v),h1',by rw[<-e2]⟩) h.1
   ·exact ih h.2 h1' h2'
theorem Mp.look_yes(K:Keyed P kt)(ht:P.underlying mt=some (.map kt et))(h:Mp P kt w B m es clock){k v:Value}{l:Lit}(hk:keyOf P kt k=some l)(hv:(k,v)∈m)(ok:Bool):(Instr.lookup mt (.map (some B)) k ok).run P w=.ok (if ok then .tuple #[v,.bool true] else v) w:=by
 have hu:(underlying mt).run P w=.ok (.map kt et) w:=by simp[underlying,ht]
 have hg:(getObj B).run P w=.ok (.map es clock) w:=by simp[getObj,Sem.run,h.blk]
 have hc:=K.check w es.isEmpty hk;rcases K.find w hk es.toList h.key with⟨_,hno⟩|⟨j,e,hf,hj,hek⟩
 ·rw[<-h.ent] at hv;obtain⟨e,he,hee⟩:=aC.1 hv;injection hee with h1 h2;exact absurd h1 (hno e he)
 ·have he:e∈es.toList:=dD hj;have hm:=h.mem he;rw[hek] at hm;have hval:=Di h.nod hm hv;unfold Instr.lookup;simp only[Sem.run_bind,Sem.run_pure,hu,cY,hg,hc,hf,hval]
theorem Mp.look_no(K:Keyed P kt)(ht:P.underlying mt=some (.map kt et))(h:Mp P kt w B m es clock){k z:Value}{l:Lit}(hk:keyOf P kt k=some l)(hv:∀v,(k,v)∉m)(hz:∀w,(zeroValue et).run P w=.ok z w)(ok:Bool):(Instr.lookup mt (.map (some B)) k ok).run P w=.ok (if ok then .tuple #[z,.bool false] else z) w:=by
 have hu:(underlying mt).run P w=.ok (.map kt et) w:=by simp[underlying,ht]
 have hg:(getObj B).run P w=.ok (.map es clock) w:=by simp[getObj,Sem.run,h.blk]
 have hc:=K.check w es.isEmpty hk;rcases K.find w hk es.toList h.key with⟨hf,_⟩|⟨j,e,_,hj,hek⟩
 ·unfold Instr.lookup;simp only[Sem.run_bind,Sem.run_pure,hu,cY,hg,hc,hf,hz]
 ·have he:e∈es.toList:=dD hj;have hm:=h.mem he;rw[hek] at hm;exact absurd hm (hv _)
theorem oN{o:Obj}{es:Array MapEntry}{clock:Nat}(hb:w.heap[B]?=some (.map es clock)):(setObj B o).run P w=.ok () (setBlock w B o):=by simp[setObj,Sem.run,hb,setBlock]
theorem jR{o:Obj}(hb:w.heap[B]?=some o):(setBlock w B o').heap[B]?=some o':=by have hlt:B<w.heap.size:=(bL.1 hb).1;simp[setBlock,hlt]
theorem gR{k:Nat}(hk:k≠B):(setBlock w B o').heap[k]?=w.heap[k]?:=by simp[setBlock,hk.symm]
theorem Mp.put_new(K:Keyed P kt)(ht:P.underlying mt=some (.map kt et))(h:Mp P kt w B m es clock){k v:Value}{l:Lit}(hk:keyOf P kt k=some l)(hv:∀v,(k,v)∉m):(Instr.mapUpdate mt (.map (some B)) k v).run P w=.ok () (setBlock w B (.map (es.push { key:=k,val:=v,born:=clock }) (clock+1)))/\Mp P kt (setBlock w B (.map (es.push { key:=k,val:=v,born:=clock }) (clock+1))) B (m++[(k,v)]) (es.push { key:=k,val:=v,born:=clock }) (clock+1):=by
 have hu:(underlying mt).run P w=.ok (.map kt et) w:=by simp[underlying,ht]
 have hg:(getObj B).run P w=.ok (.map es clock) w:=by simp[getObj,Sem.run,h.blk]
 have hc:=K.check w false hk;constructor
 ·rcases K.find w hk es.toList h.key with⟨hf,_⟩|⟨j,e,_,hj,hek⟩
  ·unfold Instr.mapUpdate;simp only[Sem.run_bind,hu,cY,hg,hc,hf,oN h.blk]
  ·have hm:=h.mem (dD hj);rw[hek] at hm;exact absurd hm (hv _)
 ·refine⟨jR h.blk,?_,fun e he=>?_,?_,fun e he=>?_,?_⟩
  ·simp[h.ent]
  ·simp only[Array.toList_push,aE,aM] at he;rcases he with he|rfl
   ·exact h.key e he
   ·exact⟨l,hk⟩
  ·rw[aS,dF];refine⟨h.nod,by simp,fun a ha b hb=>?_⟩;simp only[bH,dI,aM] at hb;subst hb;obtain⟨p,hp,rfl⟩:=aC.1 ha;intro e;exact hv p.2 (by rw[<-e];exact hp)
  ·simp only[Array.toList_push,aE,aM] at he;rcases he with he|rfl
   ·have:=h.brn e he;omega
   ·exact Nat.lt_succ_self _
  ·simp only[Array.toList_push,aS,bH,dI];rw[dF];refine⟨h.bnd,by simp,fun a ha b hb=>?_⟩;simp only[aM] at hb;subst hb;obtain⟨e,he,rfl⟩:=aC.1 ha;have:=h.brn e he;omega
theorem Fg{l:List α}{e:α}(h:l[j]?=some e):∃l1 l2,l=l1++e::l2/\l1.length=j:=by obtain⟨hj,he⟩:=bN.1 h;refine⟨l.take j,l.drop (j+1),?_,by simp;omega⟩;rw[<-he,<-cU hj,dZ]
theorem Ce(f:α->α)(l1 l2:List α)(e:α):(l1++e::l2).modify l1.length f=l1++f e::l2:=by
 induction l1 with
 |nil=>rfl
 |cons a t ih=>simp[ih]
theorem Ub(l1 l2:List α)(e:α):(l1++e::l2).eraseIdx l1.length=l1++l2:=by
 induction l1 with
 |nil=>rfl
 |cons a t ih=>simp[ih]
theorem Mp.put_old(K:Keyed P kt)(ht:P.underlying mt=some (.map kt et))(h:Mp P kt w B m es clock){k v0 v:Value}{l:Lit}(hk:keyOf P kt k=some l)(hv:(k,v0)∈m):∃es' m1 m2,m=m1++(k,v0)::m2/\(Instr.mapUpdate mt (.map (some B)) k v).run P w=.ok () (setBlock w B (.map es' clock))/\Mp P kt (setBlock w B (.map es' clock)) B (m1++(k,v)::m2) es' clock:=by
 have hu:(underlying mt).run P w=.ok (.map kt et) w:=by simp[underlying,ht]
 have hg:(getObj B).run P w=.ok (.map es clock) w:=by simp[getObj,Sem.run,h.blk]
 have hc:=K.check w false hk;rcases K.find w hk es.toList h.key with⟨_,hno⟩|⟨j,e,hf,hj,hek⟩
 ·rw[<-h.ent] at hv;obtain⟨e,he,hee⟩:=aC.1 hv;injection hee with h1 h2;exact absurd h1 (hno e he)
 ·obtain⟨l1,l2,hl,rfl⟩:=Fg hj;have hval:e.val=v0:=by have hm:=h.mem (dD hj);rw[hek] at hm;exact Di h.nod hm hv
  have hm:m=l1.map (fun e=>(e.key,e.val))++(k,v0)::l2.map (fun e=>(e.key,e.val)):=by rw[<-h.ent,hl];simp[hek,hval]
  have hl':(es.modify l1.length fun e=>{ e with key:=k,val:=v }).toList=l1++{ e with key:=k,val:=v }::l2:=by rw[Array.toList_modify,hl,Ce]
  refine⟨es.modify l1.length fun e=>{ e with key:=k,val:=v },_,_,hm,?_,?_⟩
  ·(have hkj:((es[l1.length]?).map (·.key)).getD k=k:=by rw[<-cA,hj];simp[hek]);unfold Instr.mapUpdate;simp only[Sem.run_bind,hu,cY,hg,hc,hf,hkj,K.stays w hk,oN h.blk]
  ·refine⟨jR h.blk,by rw[hl'];simp,fun x hx=>?_,?_,fun x hx=>?_,?_⟩
   ·rw[hl'] at hx;rcases aE.1 hx with hx|hx
    ·exact h.key x (by rw[hl];simp[hx])
    ·rcases aN.1 hx with rfl|hx
     ·exact⟨l,hk⟩
     ·exact h.key x (by rw[hl];simp[hx])
   ·have:=h.nod;rw[hm] at this;simpa using this
   ·rw[hl'] at hx;rcases aE.1 hx with hx|hx
    ·exact h.brn x (by rw[hl];simp[hx])
    ·rcases aN.1 hx with rfl|hx
     ·exact h.brn e (by rw[hl];simp)
     ·exact h.brn x (by rw[hl];simp[hx])
   ·have:=h.bnd;rw[hl] at this;rw[hl'];simpa using this
theorem Mp.cut(K:Keyed P kt)(ht:P.underlying mt=some (.map kt et))(h:Mp P kt w B m es clock){k v0:Value}{l:Lit}(hk:keyOf P kt k=some l)(hv:(k,v0)∈m)(ty:TypeId)(k':TypeId):∃es' m1 m2,m=m1++(k,v0)::m2/\(Builtin.delete_ #[mt,k'] ty #[.map (some B),k]).run P w=.ok (.tuple #[]) (setBlock w B (.map es' clock))/\Mp P kt (setBlock w B (.map es' clock)) B (m1++m2) es' clock:=by
 have hu:(underlying mt).run P w=.ok (.map kt et) w:=by simp[underlying,ht]
 have hg:(getObj B).run P w=.ok (.map es clock) w:=by simp[getObj,Sem.run,h.blk]
 have hc:=K.check w es.isEmpty hk;rcases K.find w hk es.toList h.key with⟨_,hno⟩|⟨j,e,hf,hj,hek⟩
 ·rw[<-h.ent] at hv;obtain⟨e,he,hee⟩:=aC.1 hv;injection hee with h1 h2;exact absurd h1 (hno e he)
 ·obtain⟨l1,l2,hl,rfl⟩:=Fg hj;have hval:e.val=v0:=by have hm:=h.mem (dD hj);rw[hek] at hm;exact Di h.nod hm hv
  have hm:m=l1.map (fun e=>(e.key,e.val))++(k,v0)::l2.map (fun e=>(e.key,e.val)):=by rw[<-h.ent,hl];simp[hek,hval]
  have hl':(es.eraseIdxIfInBounds l1.length).toList=l1++l2:=by rw[Array.toList_eraseIdxIfInBounds,hl,Ub]
  have sub:∀x,x∈l1++l2->x∈es.toList:=by
   intro x hx;rw[hl];rcases aE.1 hx with hx|hx
   ·simp[hx]
   ·simp[hx]
  refine⟨es.eraseIdxIfInBounds l1.length,_,_,hm,?_,?_⟩
  ·unfold Builtin.delete_;simp only[fJ,eE,List.getElem?_cons_succ,Sem.run_bind,Sem.run_pure,hu,cY,hg,hc,hf,oN h.blk]
  ·refine⟨jR h.blk,by rw[hl'];simp,fun x hx=>?_,?_,fun x hx=>?_,?_⟩
   ·rw[hl'] at hx;exact h.key x (sub x hx)
   ·have:=h.nod;rw[hm] at this;simp only[aS,bH] at this ⊢;exact List.Nodup.sublist (List.Sublist.append_left (List.sublist_cons_self _ _) _) this
   ·rw[hl'] at hx;exact h.brn x (sub x hx)
   ·have:=h.bnd;rw[hl] at this;rw[hl'];simp only[aS,bH] at this ⊢;exact List.Nodup.sublist (List.Sublist.append_left (List.sublist_cons_self _ _) _) this
theorem Mp.kept(h:Mp P kt w B m es clock)(hb:w'.heap[B]?=w.heap[B]?):Mp P kt w' B m es clock:=⟨hb.trans h.blk,h.ent,h.key,h.nod,h.brn,h.bnd⟩
theorem Mp.lt(h:Mp P kt w B m es clock):B<w.heap.size:=(bL.1 h.blk).1
end
abbrev Ky:=Int×Int
def klt(a b:Ky):Bool:=decide (a.1<b.1)||(decide (a.1=b.1)&&decide (a.2<b.2))
theorem sV{a b:Ky}:klt a b=true↔a.1<b.1\/(a.1=b.1/\a.2<b.2):=by simp[klt]
theorem jS(a:Ky):klt a a=false:=by simp[klt]
theorem mE{a b c:Ky}(h:klt a b=true)(k:klt b c=true):klt a c=true:=by rw[sV] at *;omega
theorem qG{a b:Ky}(h:klt a b=true):klt b a=false:=by
 cases hb:klt b a with
 |false=>rfl
 |true=>have:=mE h hb;rw[jS] at this;cases this
theorem vA(a b:Ky):klt a b=true\/a=b\/klt b a=true:=by obtain⟨a1,a2⟩:=a;obtain⟨b1,b2⟩:=b;rw[sV,sV,cP];simp only;omega
theorem rW{a b:Ky}(h:klt a b=true):a≠b:=by intro e;rw[e,jS] at h;cases h
section
variable {F:Type}
structure Hd(F:Type) where
 key:Ky
 f:F
 fr:Int
def Srt(l:List (Hd F)):Prop:=l.Pairwise fun x y=>klt x.key y.key=true
theorem Srt.uniq{l:List (Hd F)}(h:Srt l){x y:Hd F}(hx:x∈l)(hy:y∈l)(e:x.key=y.key):x=y:=by
 induction l with
 |nil=>cases hx
 |cons a t ih=>
  have hp:=cW.1 h;rcases aN.1 hx with rfl|hx'
  ·rcases aN.1 hy with rfl|hy'
   ·rfl
   ·have:=hp.1 y hy';rw[e,jS] at this;cases this
  ·rcases aN.1 hy with rfl|hy'
   ·have:=hp.1 x hx';rw[e,jS] at this;cases this
   ·exact ih hp.2 hx' hy'
theorem Srt.filter{l:List (Hd F)}(h:Srt l)(p:Hd F->Bool):Srt (l.filter p):=List.Pairwise.filter p h
def ins(h:Hd F)(l:List (Hd F)):List (Hd F):=(l.filter fun x=>klt x.key h.key)++h::(l.filter fun x=>klt h.key x.key)
def del(k:Ky)(l:List (Hd F)):List (Hd F):=l.filter fun x=>!(x.key==k)
theorem iU{h g:Hd F}{l:List (Hd F)}:g∈ins h l↔g=h\/(g∈l/\g.key≠h.key):=by
 simp only[ins,aE,aN,aY];constructor
 ·rintro(⟨h1,h2⟩|rfl|⟨h1,h2⟩)
  ·exact Or.inr ⟨h1,rW h2⟩
  ·exact Or.inl rfl
  ·exact Or.inr ⟨h1,fun e=>rW h2 e.symm⟩
 ·rintro(rfl|⟨h1,h2⟩)
  ·exact Or.inr (Or.inl rfl)
  ·rcases vA g.key h.key with h3|h3|h3
   ·exact Or.inl ⟨h1,h3⟩
   ·exact absurd h3 h2
   ·exact Or.inr (Or.inr ⟨h1,h3⟩)
theorem jO{k:Ky}{g:Hd F}{l:List (Hd F)}:g∈del k l↔g∈l/\g.key≠k:=by simp[del,List.mem_filter]
theorem Srt.ins{l:List (Hd F)}(hs:Srt l)(h:Hd F):Srt (ins h l):=by
 unfold Srt Go.Proofs.YtecnfgikbmcgoabGreat.ins;rw[eR];refine⟨hs.filter _,cW.2 ⟨fun y hy=>(aY.1 hy).2,hs.filter _⟩,fun x hx y hy=>?_⟩;have h1:=(aY.1 hx).2;rcases aN.1 hy with rfl|hy
 ·exact h1
 ·exact mE h1 (aY.1 hy).2
theorem Srt.del{l:List (Hd F)}(hs:Srt l)(k:Ky):Srt (del k l):=hs.filter _
theorem Srt.ext{l m:List (Hd F)}(hl:Srt l)(hm:Srt m)(h:∀x,x∈l↔x∈m):l=m:=by
 induction l generalizing m with
 |nil=>
  cases m with
  |nil=>rfl
  |cons b t=>have:=(h b).2 (by simp);cases this
 |cons a t ih=>
  cases m with
  |nil=>have:=(h a).1 (by simp);cases this
  |cons b u=>
   have ha:=cW.1 hl;have hb:=cW.1 hm;have hab:a=b:=by
    rcases aN.1 ((h a).1 (by simp)) with e|e
    ·exact e
    ·rcases aN.1 ((h b).2 (by simp)) with e'|e'
     ·exact e'.symm
     ·have h1:=ha.1 b e';have h2:=hb.1 a e;rw[qG h1] at h2;cases h2
   subst hab;congr 1;refine ih ha.2 hb.2 (fun x=>?_);constructor
   ·intro hx;rcases aN.1 ((h x).1 (by simp[hx])) with e|e
    ·subst e;have:=ha.1 x hx;rw[jS] at this;cases this
    ·exact e
   ·intro hx;rcases aN.1 ((h x).2 (by simp[hx])) with e|e
    ·subst e;have:=hb.1 x hx;rw[jS] at this;cases this
    ·exact e
variable (cov:F->F->Bool)
def iW(g h:Hd F):Bool:=cov g.f h.f&&(!(cov h.f g.f)||klt g.key h.key)
def told(l:List (Hd F))(n:Int):List (Hd F):=l.filter fun h=>!(h.fr==n)&&!(l.any fun g=>!(g.fr==n)&&iW cov g h)
theorem iJ{l:List (Hd F)}{n:Int}{h:Hd F}:h∈told cov l n↔h∈l/\h.fr≠n/\∀g∈l,g.fr≠n->iW cov g h=false:=by
 simp only[told,aY,aP,bW,beq_eq_false_iff_ne,List.any_eq_false];constructor
 ·rintro⟨h1,h2,h3⟩;refine⟨h1,h2,fun g hg hn=>?_⟩;have:=h3 g hg;simpa[hn] using this
 ·rintro⟨h1,h2,h3⟩;refine⟨h1,h2,fun g hg=>?_⟩;by_cases hn:g.fr=n
  ·simp[hn]
  ·simp[h3 g hg hn]
theorem Srt.told{l:List (Hd F)}(hs:Srt l)(n:Int):Srt (told cov l n):=hs.filter _
structure Pre(cov:F->F->Bool)(ok:F->Prop):Prop where
 refl:∀f,ok f->cov f f=true
 trans:∀f g h,ok f->ok g->ok h->cov f g=true->cov g h=true->cov f h=true
variable {cov}
variable {ok:F->Prop}
theorem sY(g:Hd F):iW cov g g=false:=by simp only[iW,jS,fW];cases cov g.f g.f<;>rfl
theorem Gs(P:Pre cov ok){a b c:Hd F}(oa:ok a.f)(ob:ok b.f)(oc:ok c.f)(h:iW cov a b=true)(k:iW cov b c=true):iW cov a c=true:=by
 simp only[iW,aP,cN,bW] at *;refine⟨P.trans _ _ _ oa ob oc h.1 k.1,?_⟩;cases hca:cov c.f a.f with
 |false=>exact Or.inl rfl
 |true=>
  right;have hba:cov b.f a.f=true:=P.trans _ _ _ ob oc oa k.1 hca;have hcb:cov c.f b.f=true:=P.trans _ _ _ oc oa ob hca h.1;rcases h.2 with h2|h2
  ·rw[hba] at h2;cases h2
  ·rcases k.2 with k2|k2
   ·rw[hcb] at k2;cases k2
   ·exact mE h2 k2
end
end Go.Proofs.YtecnfgikbmcgoabGreat
