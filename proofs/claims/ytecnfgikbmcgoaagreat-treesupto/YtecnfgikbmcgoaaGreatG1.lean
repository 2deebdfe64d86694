import Derived.Test.YtecnfgikbmcgoaaGreatG0
import Derived.WalkSmall
import Derived.WalkSpells
import Derived.Deep.AppendLies
import Derived.Test.YtecnfgikbmcgoaaGreatRows
import Derived.Maps.Keyed
import Derived.Maps.RangeRun
import Derived.DeepKeys4
import Derived.WalkKit
namespace Go.Proofs.YtecnfgikbmcgoaaGreat
open Go.RowKit
def minI:Int := -9223372036854775808
def maxI:Int:=9223372036854775807
def noText:ByteArray:=⟨#[]⟩
theorem noText_list:noText.toList=[]:=by rw [ByteArray.toList_eq];rfl
def nothingB (y n:Int):Bool:=(y==4&&n==minI)||(y==6&&n==maxI)
def endLo (y n:Int):Int :=
 if y==2 then n else if y==3 then (if n==minI then minI+1 else minI) else if y==6 then n+1 else if y==7 then n else minI
def endHi (y n:Int):Int :=
 if y==2 then n else if y==3 then (if n==maxI then maxI - 1 else maxI) else if y==4 then n - 1 else if y==5 then n else maxI
def numbersB (y n y' n':Int) (s':ByteArray):Bool:=lets y' 1 n' s' 1 (endLo y n) noText&&lets y' 1 n' s' 1 (endHi y n) noText
def textsB (y:Int) (s:ByteArray) (y':Int) (s':ByteArray):Bool :=
 if y==3 then y' != 2&&s'.toList.isEmpty
 else if !lets y' 2 0 s' 2 0 s then false
 else if y==2||((s.size:Int)==32) then true
 else if y'==2 then false
 else y'==10||y'==y||s'.toList.isEmpty
def flagsB (y n:Int) (s:ByteArray) (y' n':Int) (s':ByteArray):Bool :=
 !(lets y 3 n s 3 0 noText && !lets y' 3 n' s' 3 0 noText) && !(lets y 3 n s 3 1 noText && !lets y' 3 n' s' 3 1 noText)
def withinB (y k n:Int) (s:ByteArray) (y' k' n':Int) (s':ByteArray):Bool :=
 if y'==1||nothingB y n then true
 else if y==1||k != k' then false
 else if y'==3 then !lets y k n s k' n' s'
 else if k==1 then numbersB y n y' n' s'
 else if k==2 then textsB y s y' s'
 else flagsB y n s y' n' s'
def impB (a:ByteArray) (y k n:Int) (s a':ByteArray) (y' k' n':Int) (s':ByteArray):Bool :=
 wantOk a y k n s&&wantOk a' y' k' n' s'&&(a.toList==a'.toList)&&withinB y k n s y' k' n' s'
theorem way_text {y:Int} {s:ByteArray} (h:wayOk y 2 0 s=true):valOk 2 0 s=true:=by
 have hc:=way_cases h
 by_cases h1:y=1
 ·subst h1;simp [wayOk_any] at h
 ·by_cases h3:y≤3
  ·exact way_low h (by omega) h3
  ·by_cases h7:y≤7
   ·have:=way_mid h (by omega) h7;omega
   ·rw [wayOk_hi y 2 0 s (by omega) (by omega)] at h;simpa using h
theorem ret_ii {a b c d:Int} (h1:a=c) (h2:b=d):Ending.returned (.tuple #[.int .i64 a,.int .i64 b]) = .returned (.tuple #[.int .i64 c,.int .i64 d]):=by rw [h1,h2]
theorem way_val {y k n:Int} {s:ByteArray} (h:wayOk y k n s=true) (h1:y≠1):valOk k n s=true:=by
 have hc:=way_cases h
 by_cases h3:y≤3
 ·exact way_low h (by omega) h3
 ·by_cases h7:y≤7
  ·rw [wayOk_mid y k n s (by omega) h7] at h;simp at h;exact h.2
  ·rw [wayOk_hi y k n s (by omega) (by omega)] at h;simp at h;exact h.2
theorem val_kind {k n:Int} {s:ByteArray} (h:valOk k n s=true):k=1∨k=2∨k=3:=by
 simp [valOk] at h;omega
theorem val_text {n:Int} {s:ByteArray} (h:valOk 2 n s=true):n=0:=by
 simp [valOk] at h;omega
theorem val_flag {n:Int} {s:ByteArray} (h:valOk 3 n s=true):(n=0∨n=1)∧s.toList=[]:=by
 simp [valOk] at h;exact ⟨h.2,h.1⟩
theorem way_num {y n:Int} {s:ByteArray} (h:wayOk y 1 n s=true) (h1:y≠1):2≤y∧y≤7:=by
 have hc:=way_cases h
 by_cases h7:y≤7
 ·omega
 ·have:=way_hi h (by omega) (by omega);omega
structure Wnt where
 a:ByteArray
 y:Int
 k:Int
 n:Int
 s:ByteArray
structure Atr where
 a:ByteArray
 k:Int
 n:Int
 s:ByteArray
def dW:Wnt:=⟨⟨#[]⟩,0,0,0,⟨#[]⟩⟩
def dA:Atr:=⟨⟨#[]⟩,0,0,⟨#[]⟩⟩
def wat (l:List Wnt) (i:Nat):Wnt:=l.getD i dW
def aat (l:List Atr) (i:Nat):Atr:=l.getD i dA
structure Wnt.Wf (x:Wnt):Prop where
 a:x.a.size≤maxLen
 s:x.s.size≤maxLen
 n1:minI≤x.n
 n2:x.n≤maxI
structure Atr.Wf (x:Atr):Prop where
 a:x.a.size≤maxLen
 s:x.s.size≤maxLen
 n1:minI≤x.n
 n2:x.n≤maxI
def WantsAt (w:World) (b off:Nat) (l:List Wnt):Prop :=
 ∀ i,i<l.length→w.cell? ⟨b,off+i*5,none⟩=some (.string (wat l i).a)∧w.cell? ⟨b,off+i*5+1,none⟩=some (.int .i64 (wat l i).y) ∧
  w.cell? ⟨b,off+i*5+1+1,none⟩=some (.int .i64 (wat l i).k)∧w.cell? ⟨b,off+i*5+1+1+1,none⟩=some (.int .i64 (wat l i).n) ∧
  w.cell? ⟨b,off+i*5+1+1+1+1,none⟩=some (.string (wat l i).s)
def AttrsAt (w:World) (b off:Nat) (l:List Atr):Prop :=
 ∀ i,i<l.length→w.cell? ⟨b,off+i*4,none⟩=some (.string (aat l i).a) ∧
  w.cell? ⟨b,off+i*4+1,none⟩=some (.int .i64 (aat l i).k)∧w.cell? ⟨b,off+i*4+1+1,none⟩=some (.int .i64 (aat l i).n) ∧
  w.cell? ⟨b,off+i*4+1+1+1,none⟩=some (.string (aat l i).s)
theorem WantsAt.gr {w w':World} {b off:Nat} {l:List Wnt} (h:WantsAt w b off l) (g:Gr w w') (hb:b<w.heap.size):WantsAt w' b off l:=fun i hi=>by
 obtain ⟨h1,h2,h3,h4,h5⟩:=h i hi
 obtain ⟨hc,_⟩:=bcell g
 rw [hc b _ hb,hc b _ hb,hc b _ hb,hc b _ hb,hc b _ hb]
 exact ⟨h1,h2,h3,h4,h5⟩
theorem AttrsAt.gr {w w':World} {b off:Nat} {l:List Atr} (h:AttrsAt w b off l) (g:Gr w w') (hb:b<w.heap.size):AttrsAt w' b off l:=fun i hi=>by
 obtain ⟨h1,h2,h3,h4⟩:=h i hi
 obtain ⟨hc,_⟩:=bcell g
 rw [hc b _ hb,hc b _ hb,hc b _ hb,hc b _ hb]
 exact ⟨h1,h2,h3,h4⟩
theorem getD_mem {α : Type} {l:List α} {i:Nat} (h:i<l.length) (d : α):l.getD i d∈l:=by
 simp [List.getD_eq_getElem?_getD,List.getElem?_eq_getElem h]
theorem wat_mem {l:List Wnt} {i:Nat} (h:i<l.length):wat l i∈l:=getD_mem h dW
theorem aat_mem {l:List Atr} {i:Nat} (h:i<l.length):aat l i∈l:=getD_mem h dA
def wOk (x:Wnt):Bool:=wantOk x.a x.y x.k x.n x.s
def filterOk (l:List Wnt):Bool:=decide (1≤(l.length:Int))&&decide ((l.length:Int)≤6)&&l.all wOk
def chk (l:List Wnt):Int:=if filterOk l then 0 else 2
theorem chk_size {l:List Wnt} (h:(l.length:Int)<1∨6<(l.length:Int)):chk l=2:=by
 have:filterOk l=false:=by
  rcases h with h | h
  ·have e:decide (1≤(l.length:Int))=false:=by simp;omega
   simp only [filterOk,e,Bool.false_and]
  ·have e:decide ((l.length:Int)≤6)=false:=by simp;omega
   simp only [filterOk,e,Bool.false_and,Bool.and_false]
 simp [chk,this]
theorem all_snoc {α : Type} (p : α → Bool) (l:List α) (k:Nat) (d : α) (h:k<l.length) (hk:(l.take k).all p=true) (hp:p (l.getD k d)=true):(l.take (k+1)).all p=true:=by
 rw [List.take_succ_eq_append_getElem h,List.all_append,hk]
 simp [List.getD_eq_getElem?_getD,List.getElem?_eq_getElem h] at hp
 simp [hp]
theorem all_stop {α : Type} (p : α → Bool) (l:List α) (k:Nat) (d : α) (h:k<l.length) (hp:p (l.getD k d)=false):l.all p=false:=by
 rw [List.all_eq_false]
 exact ⟨_,getD_mem h d,by rw [hp];simp⟩
theorem all_end {α : Type} (p : α → Bool) (l:List α) (k:Nat) (h:¬ k<l.length) (hk:(l.take k).all p=true):l.all p=true:=by
 rwa [List.take_of_length_le (by omega)] at hk
theorem chk_stop {l:List Wnt} (k:Nat) (h:k<l.length) (hp:wOk (wat l k)=false):chk l=2:=by
 simp [chk,filterOk,all_stop wOk l k dW h hp]
theorem chk_end {l:List Wnt} (k:Nat) (h:¬ k<l.length) (h1:1≤(l.length:Int)) (h2:(l.length:Int)≤6) (hk:(l.take k).all wOk=true):chk l=0:=by
 have e1:decide (1≤(l.length:Int))=true:=by simpa using h1
 have e2:decide ((l.length:Int)≤6)=true:=by simpa using h2
 simp [chk,filterOk,e1,e2,all_end wOk l k h hk]
theorem Gr.drewN {a w:World} (h:Gr a w) (n:Nat):Gr a (w.drewN n):=below_drewN h n
def okAt (l:List Atr) (i:Nat):Bool :=
 nameOk (aat l i).a&&valOk (aat l i).k (aat l i).n (aat l i).s&&(i==0||Op.bytesLess (aat l (i - 1)).a.toList (aat l i).a.toList)
def evOk (l:List Atr):Bool:=decide (1≤(l.length:Int))&&decide ((l.length:Int)≤8)&&(List.range l.length).all (okAt l)
def chkE (l:List Atr):Int:=if evOk l then 0 else 1
theorem chkE_size {l:List Atr} (h:(l.length:Int)<1∨8<(l.length:Int)):chkE l=1:=by
 have:evOk l=false:=by
  rcases h with h | h
  ·have e:decide (1≤(l.length:Int))=false:=by simp;omega
   simp only [evOk,e,Bool.false_and]
  ·have e:decide ((l.length:Int)≤8)=false:=by simp;omega
   simp only [evOk,e,Bool.false_and,Bool.and_false]
 simp [chkE,this]
theorem chkE_stop {l:List Atr} (k:Nat) (h:k<l.length) (hp:okAt l k=false):chkE l=1:=by
 have:(List.range l.length).all (okAt l)=false:=by
  rw [List.all_eq_false]
  exact ⟨k,by simpa using h,by simp [hp]⟩
 simp [chkE,evOk,this]
theorem range_snoc {l:List Atr} (k:Nat) (hk:(List.range k).all (okAt l)=true) (hp:okAt l k=true):(List.range (k+1)).all (okAt l)=true:=by
 rw [List.range_succ,List.all_append,hk];simp [hp]
theorem chkE_end {l:List Atr} (k:Nat) (h:¬ k<l.length) (hk':k≤l.length) (h1:1≤(l.length:Int)) (h2:(l.length:Int)≤8) (hk:(List.range k).all (okAt l)=true):chkE l=0:=by
 have e:k=l.length:=by omega
 subst e
 have e1:decide (1≤(l.length:Int))=true:=by simpa using h1
 have e2:decide ((l.length:Int)≤8)=true:=by simpa using h2
 simp only [chkE,evOk,e1,e2,hk,Bool.and_self,if_true]
def ans:List Atr→Wnt→Bool
 | [],_=>false
 | a::r,x=>if a.a.toList==x.a.toList then lets x.y x.k x.n x.s a.k a.n a.s else ans r x
theorem ans_here {l:List Atr} {x:Wnt} (k:Nat) (h:k<l.length) (hn:((aat l k).a.toList==x.a.toList)=true):ans (l.drop k) x=lets x.y x.k x.n x.s (aat l k).k (aat l k).n (aat l k).s:=by
 have e:l.drop k=aat l k::l.drop (k+1):=by
  rw [List.drop_eq_getElem_cons h];simp [aat,List.getD_eq_getElem?_getD,List.getElem?_eq_getElem h]
 rw [e,ans,if_pos hn]
theorem ans_next {l:List Atr} {x:Wnt} (k:Nat) (h:k<l.length) (hn:((aat l k).a.toList==x.a.toList)=false):ans (l.drop k) x=ans (l.drop (k+1)) x:=by
 have e:l.drop k=aat l k::l.drop (k+1):=by
  rw [List.drop_eq_getElem_cons h];simp [aat,List.getD_eq_getElem?_getD,List.getElem?_eq_getElem h]
 rw [e,ans,if_neg (by simp [hn])]
theorem ans_end {l:List Atr} {x:Wnt} (k:Nat) (h:¬ k<l.length):ans (l.drop k) x=false:=by
 rw [List.drop_of_length_le (by omega)];rfl
def mat (e:List Atr) (f:List Wnt):Bool:=f.all (ans e)
theorem ownsGr {w w':World} {base:Nat} {e:TypeId} {size:Nat} {v:Value} {n:Nat} {xs:List Value} (h:w.ownsRow base e size v n xs) (g:Gr w w'):w'.ownsRow base e size v n xs:=by
 obtain ⟨h1,h2⟩:=h
 refine ⟨h1,?_⟩
 rcases h2 with h2 | ⟨b,cap,cur,hv,hb,hh,r⟩
 ·exact Or.inl h2
 ·refine Or.inr ⟨b,cap,cur,hv,hb,?_,r⟩
  have hlt:b<w.heap.size:=by
   rcases Nat.lt_or_ge b w.heap.size with h | h
   ·exact h
   ·rw [Array.getElem?_eq_none (by omega)] at hh;cases hh
  rw [g.block b hlt];exact hh
def FiAt (w:World) (ad:Option Addr) (l:List Wnt):Prop:=l=[] ∨ ∃ b off,ad=some ⟨b,off,none⟩∧b<w.heap.size∧WantsAt w b off l
def EvAt (w:World) (ad:Option Addr) (l:List Atr):Prop:=l=[] ∨ ∃ b off,ad=some ⟨b,off,none⟩∧b<w.heap.size∧AttrsAt w b off l
theorem FiAt.gr {w w':World} {ad:Option Addr} {l:List Wnt} (h:FiAt w ad l) (g:Gr w w'):FiAt w' ad l:=by
 rcases h with h | ⟨b,off,h1,h2,h3⟩
 ·exact Or.inl h
 ·exact Or.inr ⟨b,off,h1,Gr.lt g h2,h3.gr g h2⟩
theorem EvAt.gr {w w':World} {ad:Option Addr} {l:List Atr} (h:EvAt w ad l) (g:Gr w w'):EvAt w' ad l:=by
 rcases h with h | ⟨b,off,h1,h2,h3⟩
 ·exact Or.inl h
 ·exact Or.inr ⟨b,off,h1,Gr.lt g h2,h3.gr g h2⟩
def fat (fs:List (List Wnt)) (i:Nat):List Wnt:=fs.getD i []
theorem fat_mem {fs:List (List Wnt)} {i:Nat} (h:i<fs.length):fat fs i∈fs:=getD_mem h []
def FisAt (w:World) (b off:Nat) (fs:List (List Wnt)):Prop :=
 ∀ i,i<fs.length → ∃ ad cap,w.cell? ⟨b,off+i,none⟩=some (.slice ad (fat fs i).length cap)∧FiAt w ad (fat fs i)
theorem FisAt.gr {w w':World} {b off:Nat} {fs:List (List Wnt)} (h:FisAt w b off fs) (g:Gr w w') (hb:b<w.heap.size):FisAt w' b off fs:=fun i hi=>by
 obtain ⟨ad,cap,h1,h2⟩:=h i hi
 exact ⟨ad,cap,by rw [(bcell g).1 b _ hb];exact h1,h2.gr g⟩
theorem ret_tup {v:Value} {a b:Int} (h:a=b):Ending.returned (.tuple #[v,.int .i64 a]) = .returned (.tuple #[v,.int .i64 b]):=by rw [h]
def hits (e:List Atr) (fs:List (List Wnt)) (k:Nat):List Nat:=(List.range k).filter fun i=>mat e (fat fs i)
def mErr (e:List Atr) (fs:List (List Wnt)):Int:=if evOk e then (if fs.all filterOk then 0 else 2) else 1
def mRes (e:List Atr) (fs:List (List Wnt)):List Nat:=if mErr e fs=0 then hits e fs fs.length else []
def ints (l:List Nat):List Value:=l.map fun i:Nat=>.int .i64 (i:Int)
theorem hits_yes {e:List Atr} {fs:List (List Wnt)} {k:Nat} (h:mat e (fat fs k)=true):hits e fs (k+1)=hits e fs k++[k]:=by
 simp [hits,List.range_succ,h]
theorem hits_no {e:List Atr} {fs:List (List Wnt)} {k:Nat} (h:mat e (fat fs k)=false):hits e fs (k+1)=hits e fs k:=by
 simp [hits,List.range_succ,h]
theorem hits_le (e:List Atr) (fs:List (List Wnt)) (k:Nat):(hits e fs k).length≤k:=by
 have:=List.length_filter_le (fun i=>mat e (fat fs i)) (List.range k)
 simpa [hits] using this
theorem ints_snoc (l:List Nat) (k:Nat):ints (l++[k])=ints l++[.int .i64 (k:Int)]:=by simp [ints]
theorem ev_ok_of {l:List Atr} (h:evOk l=true):(∀ z∈l,valOk z.k z.n z.s=true)∧l≠[]:=by
 simp only [evOk,Bool.and_eq_true,List.all_eq_true] at h
 refine ⟨fun z hz=>?_,fun e=>?_⟩
 ·obtain ⟨i,hi,rfl⟩:=List.mem_iff_getElem.1 hz
  have:=h.2 i (by simpa using hi)
  simp [okAt,aat,List.getD_eq_getElem?_getD,List.getElem?_eq_getElem hi] at this
  exact this.1.2
 ·subst e;simp at h
theorem fi_ok_of {l:List Wnt} (h:filterOk l=true):(∀ x∈l,wOk x=true)∧l≠[]:=by
 simp only [filterOk,Bool.and_eq_true,List.all_eq_true] at h
 refine ⟨fun x hx=>h.2 x hx,fun e=>?_⟩
 subst e;simp at h
def wcell (x:Wnt):List Value:=[.string x.a,.int .i64 x.y,.int .i64 x.k,.int .i64 x.n,.string x.s]
def wcells (l:List Wnt):List Value:=l.flatMap wcell
def acell (x:Atr):List Value:=[.string x.a,.int .i64 x.k,.int .i64 x.n,.string x.s]
def acells (l:List Atr):List Value:=l.flatMap acell
theorem wcells_snoc (l:List Wnt) (x:Wnt):wcells (l++[x])=wcells l++[.string x.a,.int .i64 x.y,.int .i64 x.k,.int .i64 x.n,.string x.s]:=by simp [wcells,wcell]
theorem acells_snoc (l:List Atr) (x:Atr):acells (l++[x])=acells l++[.string x.a,.int .i64 x.k,.int .i64 x.n,.string x.s]:=by simp [acells,acell]
theorem wcells_at:∀ (l:List Wnt) (i:Nat),i<l.length→(wcells l)[i*5]? = some (.string (wat l i).a)∧(wcells l)[i*5+1]? = some (.int .i64 (wat l i).y)∧(wcells l)[i*5+2]? = some (.int .i64 (wat l i).k) ∧
  (wcells l)[i*5+3]? = some (.int .i64 (wat l i).n)∧(wcells l)[i*5+4]? = some (.string (wat l i).s)
 | [],i,h=>by simp at h
 | x::l,0,_=>by simp [wcells,wcell,wat]
 | x::l,i+1,h=>by
  have ih:=wcells_at l i (by simpa using h)
  have e:∀ j,(wcells (x::l))[(i+1)*5+j]? = (wcells l)[i*5+j]? := fun j=>by
   have:(i+1)*5+j=(i*5+j)+5:=by omega
   rw [this];simp [wcells,wcell,List.getElem?_cons_succ]
  have e0:=e 0
  simp only [Nat.add_zero] at e0
  have ew:wat (x::l) (i+1)=wat l i:=by simp [wat]
  rw [e0,e 1,e 2,e 3,e 4,ew]
  exact ih
theorem acells_at:∀ (l:List Atr) (i:Nat),i<l.length→(acells l)[i*4]? = some (.string (aat l i).a)∧(acells l)[i*4+1]? = some (.int .i64 (aat l i).k) ∧
  (acells l)[i*4+2]? = some (.int .i64 (aat l i).n)∧(acells l)[i*4+3]? = some (.string (aat l i).s)
 | [],i,h=>by simp at h
 | x::l,0,_=>by simp [acells,acell,aat]
 | x::l,i+1,h=>by
  have ih:=acells_at l i (by simpa using h)
  have e:∀ j,(acells (x::l))[(i+1)*4+j]? = (acells l)[i*4+j]? := fun j=>by
   have:(i+1)*4+j=(i*4+j)+4:=by omega
   rw [this];simp [acells,acell,List.getElem?_cons_succ]
  have e0:=e 0
  simp only [Nat.add_zero] at e0
  have ew:aat (x::l) (i+1)=aat l i:=by simp [aat]
  rw [e0,e 1,e 2,e 3,ew]
  exact ih
theorem owns_wants {w:World} {base:Nat} {e:TypeId} {v:Value} {l:List Wnt} (h:w.ownsRow base e 5 v l.length (wcells l)):∃ ad cap,v = .slice ad l.length cap∧FiAt w ad l:=by
 rcases h.2 with ⟨hv,hn⟩ | ⟨g,cap,cur,hv,hg,hh,_⟩
 ·exact ⟨none,0,by rw [hv,hn],Or.inl (List.length_eq_zero_iff.1 hn)⟩
 ·refine ⟨some ⟨g,0,none⟩,cap,hv,Or.inr ⟨g,0,rfl,?_,fun i hi=>?_⟩⟩
  ·rcases Nat.lt_or_ge g w.heap.size with h | h
   ·exact h
   ·rw [Array.getElem?_eq_none (by omega)] at hh;cases hh
  ·have hc:=fun j (hj:j<l.length*5)=>World.ownsRow.cellAt (hv ▸ h) j hj
   obtain ⟨h1,h2,h3,h4,h5⟩:=wcells_at l i hi
   simp only [Nat.zero_add]
   rw [hc (i*5) (by omega),hc (i*5+1) (by omega),hc (i*5+1+1) (by omega),hc (i*5+1+1+1) (by omega),hc (i*5+1+1+1+1) (by omega)]
   exact ⟨h1,h2,h3,h4,h5⟩
theorem owns_attrs {w:World} {base:Nat} {e:TypeId} {v:Value} {l:List Atr} (h:w.ownsRow base e 4 v l.length (acells l)):∃ ad cap,v = .slice ad l.length cap∧EvAt w ad l:=by
 rcases h.2 with ⟨hv,hn⟩ | ⟨g,cap,cur,hv,hg,hh,_⟩
 ·exact ⟨none,0,by rw [hv,hn],Or.inl (List.length_eq_zero_iff.1 hn)⟩
 ·refine ⟨some ⟨g,0,none⟩,cap,hv,Or.inr ⟨g,0,rfl,?_,fun i hi=>?_⟩⟩
  ·rcases Nat.lt_or_ge g w.heap.size with h | h
   ·exact h
   ·rw [Array.getElem?_eq_none (by omega)] at hh;cases hh
  ·have hc:=fun j (hj:j<l.length*4)=>World.ownsRow.cellAt (hv ▸ h) j hj
   obtain ⟨h1,h2,h3,h4⟩:=acells_at l i hi
   simp only [Nat.zero_add]
   rw [hc (i*4) (by omega),hc (i*4+1) (by omega),hc (i*4+1+1) (by omega),hc (i*4+1+1+1) (by omega)]
   exact ⟨h1,h2,h3,h4⟩
theorem owns_grown {w w1 w':World} {base:Nat} {e:TypeId} {size:Nat} {v:Value} {n:Nat} {xs:List Value} {o:Obj} (hb:base=w.heap.size) (h:w1.ownsRow base e size v n xs) (g:Gr w w1) (hg:(w1.alloc o).grownBy w' v.ownBlock):Gr w w':=by
 subst hb
 refine Below.grown (g.alloc _) hg (by have:=g.size;simp;omega) (fun b hb=>?_)
 rcases h.2 with ⟨hv,_⟩ | ⟨q,cap,cur,hv,hq,_⟩
 ·rw [hv] at hb;simp [Value.ownBlock] at hb
 ·rw [hv] at hb;simp [Value.ownBlock] at hb;omega
end Go.Proofs.YtecnfgikbmcgoaaGreat
namespace Go.Proofs.YtecnfgikbmcgoaaGreat
open Go.Maps (Keyed)
open Go.ChangeMaps (setBlock)
structure Mp (P:Program) (kt:TypeId) (w:World) (B:Nat) (m:List (Value × Value)) (es:Array MapEntry) (clock:Nat):Prop where
 blk:w.heap[B]? = some (.map es clock)
 ent:es.toList.map (fun e=>(e.key,e.val))=m
 key:∀ e∈es.toList,∃ l,keyOf P kt e.key=some l
 nod:(m.map Prod.fst).Nodup
 brn:∀ e∈es.toList,e.born<clock
 bnd:(es.toList.map (·.born)).Nodup
section
variable {P:Program} {kt et mt:TypeId} {w:World} {B:Nat} {m:List (Value × Value)} {es:Array MapEntry} {clock:Nat}
theorem Mp.mem (h:Mp P kt w B m es clock) {e:MapEntry} (he:e∈es.toList):(e.key,e.val)∈m:=by
 rw [← h.ent];exact List.mem_map.2 ⟨e,he,rfl⟩
theorem nod_inj {l:List MapEntry} (h:(l.map (Prod.fst ∘ fun e:MapEntry=>(e.key,e.val))).Nodup) {x y:MapEntry} (hx:x∈l) (hy:y∈l) (e:x.key=y.key):x=y:=by
 induction l with
 | nil=>cases hx
 | cons a t ih =>
  simp only [List.map_cons,List.nodup_cons] at h
  rcases List.mem_cons.1 hx with rfl | hx'
  ·rcases List.mem_cons.1 hy with rfl | hy'
   ·rfl
   ·exact absurd (List.mem_map.2 ⟨y,hy',e.symm⟩) h.1
  ·rcases List.mem_cons.1 hy with rfl | hy'
   ·exact absurd (List.mem_map.2 ⟨x,hx',e⟩) h.1
   ·exact ih h.2 hx' hy'
theorem nod_val {m:List (Value × Value)} (h:(m.map Prod.fst).Nodup) {k v v':Value} (h1:(k,v)∈m) (h2:(k,v')∈m):v=v':=by
 induction m with
 | nil=>cases h1
 | cons a t ih =>
  simp only [List.map_cons,List.nodup_cons] at h
  rcases List.mem_cons.1 h1 with e1 | h1'
  ·rcases List.mem_cons.1 h2 with e2 | h2'
   ·rw [← e1] at e2;injection e2 with _ e2;exact e2.symm
   ·exact absurd (List.mem_map.2 ⟨(k,v'),h2',by rw [← e1]⟩) h.1
  ·rcases List.mem_cons.1 h2 with e2 | h2'
   ·exact absurd (List.mem_map.2 ⟨(k,v),h1',by rw [← e2]⟩) h.1
   ·exact ih h.2 h1' h2'
theorem Mp.look_yes (K:Keyed P kt) (ht:P.underlying mt=some (.map kt et)) (h:Mp P kt w B m es clock) {k v:Value} {l:Lit} (hk:keyOf P kt k=some l) (hv:(k,v)∈m) (ok:Bool) :
  (Instr.lookup mt (.map (some B)) k ok).run P w = .ok (if ok then .tuple #[v,.bool true] else v) w:=by
 have hu:(underlying mt).run P w = .ok (.map kt et) w:=by simp [underlying,ht]
 have hg:(getObj B).run P w = .ok (.map es clock) w:=by simp [getObj,Sem.run,h.blk]
 have hc:=K.check w es.isEmpty hk
 rcases K.find w hk es.toList h.key with ⟨_,hno⟩ | ⟨j,e,hf,hj,hek⟩
 ·rw [← h.ent] at hv
  obtain ⟨e,he,hee⟩:=List.mem_map.1 hv
  injection hee with h1 h2
  exact absurd h1 (hno e he)
 ·have he:e∈es.toList:=List.mem_of_getElem? hj
  have hm:=h.mem he
  rw [hek] at hm
  have hval:=nod_val h.nod hm hv
  unfold Instr.lookup
  simp only [Sem.run_bind,Sem.run_pure,hu,Result.andThen_ok,hg,hc,hf,hval]
theorem Mp.look_no (K:Keyed P kt) (ht:P.underlying mt=some (.map kt et)) (h:Mp P kt w B m es clock) {k z:Value} {l:Lit} (hk:keyOf P kt k=some l) (hv:∀ v,(k,v) ∉ m) (hz:∀ w,(zeroValue et).run P w = .ok z w) (ok:Bool) :
  (Instr.lookup mt (.map (some B)) k ok).run P w = .ok (if ok then .tuple #[z,.bool false] else z) w:=by
 have hu:(underlying mt).run P w = .ok (.map kt et) w:=by simp [underlying,ht]
 have hg:(getObj B).run P w = .ok (.map es clock) w:=by simp [getObj,Sem.run,h.blk]
 have hc:=K.check w es.isEmpty hk
 rcases K.find w hk es.toList h.key with ⟨hf,_⟩ | ⟨j,e,_,hj,hek⟩
 ·unfold Instr.lookup
  simp only [Sem.run_bind,Sem.run_pure,hu,Result.andThen_ok,hg,hc,hf,hz]
 ·have he:e∈es.toList:=List.mem_of_getElem? hj
  have hm:=h.mem he
  rw [hek] at hm
  exact absurd hm (hv _)
theorem run_setMap {o:Obj} {es:Array MapEntry} {clock:Nat} (hb:w.heap[B]? = some (.map es clock)):(setObj B o).run P w = .ok () (setBlock w B o):=by
 simp [setObj,Sem.run,hb,setBlock]
theorem setBlock_get {o o':Obj} (hb:w.heap[B]? = some o):(setBlock w B o').heap[B]? = some o':=by
 have hlt:B<w.heap.size:=(Array.getElem?_eq_some_iff.1 hb).1
 simp [setBlock,hlt]
theorem setBlock_other {o':Obj} {k:Nat} (hk:k≠B):(setBlock w B o').heap[k]? = w.heap[k]? := by
 simp [setBlock,hk.symm]
theorem Mp.put_new (K:Keyed P kt) (ht:P.underlying mt=some (.map kt et)) (h:Mp P kt w B m es clock) {k v:Value} {l:Lit} (hk:keyOf P kt k=some l) (hv:∀ v,(k,v) ∉ m) :
  (Instr.mapUpdate mt (.map (some B)) k v).run P w = .ok () (setBlock w B (.map (es.push { key:=k,val:=v,born:=clock }) (clock+1)))∧Mp P kt (setBlock w B (.map (es.push { key:=k,val:=v,born:=clock }) (clock+1))) B (m++[(k,v)]) (es.push { key:=k,val:=v,born:=clock }) (clock+1):=by
 have hu:(underlying mt).run P w = .ok (.map kt et) w:=by simp [underlying,ht]
 have hg:(getObj B).run P w = .ok (.map es clock) w:=by simp [getObj,Sem.run,h.blk]
 have hc:=K.check w false hk
 constructor
 ·rcases K.find w hk es.toList h.key with ⟨hf,_⟩ | ⟨j,e,_,hj,hek⟩
  ·unfold Instr.mapUpdate
   simp only [Sem.run_bind,hu,Result.andThen_ok,hg,hc,hf,run_setMap h.blk]
  ·have hm:=h.mem (List.mem_of_getElem? hj)
   rw [hek] at hm
   exact absurd hm (hv _)
 ·refine ⟨setBlock_get h.blk,?_,fun e he=>?_,?_,fun e he=>?_,?_⟩
  ·simp [h.ent]
  ·simp only [Array.toList_push,List.mem_append,List.mem_singleton] at he
   rcases he with he | rfl
   ·exact h.key e he
   ·exact ⟨l,hk⟩
  ·rw [List.map_append,List.nodup_append]
   refine ⟨h.nod,by simp,fun a ha b hb=>?_⟩
   simp only [List.map_cons,List.map_nil,List.mem_singleton] at hb
   subst hb
   obtain ⟨p,hp,rfl⟩:=List.mem_map.1 ha
   intro e
   exact hv p.2 (by rw [← e];exact hp)
  ·simp only [Array.toList_push,List.mem_append,List.mem_singleton] at he
   rcases he with he | rfl
   ·have:=h.brn e he;omega
   ·exact Nat.lt_succ_self _
  ·simp only [Array.toList_push,List.map_append,List.map_cons,List.map_nil]
   rw [List.nodup_append]
   refine ⟨h.bnd,by simp,fun a ha b hb=>?_⟩
   simp only [List.mem_singleton] at hb
   subst hb
   obtain ⟨e,he,rfl⟩:=List.mem_map.1 ha
   have:=h.brn e he;omega
theorem split_at {α : Type} {l:List α} {j:Nat} {e : α} (h:l[j]? = some e):∃ l1 l2,l=l1++e::l2∧l1.length=j:=by
 obtain ⟨hj,he⟩:=List.getElem?_eq_some_iff.1 h
 refine ⟨l.take j,l.drop (j+1),?_,by simp;omega⟩
 rw [← he, ← List.drop_eq_getElem_cons hj,List.take_append_drop]
theorem modify_at {α : Type} (f : α → α) (l1 l2:List α) (e : α):(l1++e::l2).modify l1.length f=l1++f e::l2:=by
 induction l1 with
 | nil=>rfl
 | cons a t ih=>simp [ih]
theorem erase_at {α : Type} (l1 l2:List α) (e : α):(l1++e::l2).eraseIdx l1.length=l1++l2:=by
 induction l1 with
 | nil=>rfl
 | cons a t ih=>simp [ih]
theorem Mp.put_old (K:Keyed P kt) (ht:P.underlying mt=some (.map kt et)) (h:Mp P kt w B m es clock) {k v0 v:Value} {l:Lit} (hk:keyOf P kt k=some l) (hv:(k,v0)∈m) :
  ∃ es' m1 m2,m=m1++(k,v0)::m2∧(Instr.mapUpdate mt (.map (some B)) k v).run P w = .ok () (setBlock w B (.map es' clock))∧Mp P kt (setBlock w B (.map es' clock)) B (m1++(k,v)::m2) es' clock:=by
 have hu:(underlying mt).run P w = .ok (.map kt et) w:=by simp [underlying,ht]
 have hg:(getObj B).run P w = .ok (.map es clock) w:=by simp [getObj,Sem.run,h.blk]
 have hc:=K.check w false hk
 rcases K.find w hk es.toList h.key with ⟨_,hno⟩ | ⟨j,e,hf,hj,hek⟩
 ·rw [← h.ent] at hv
  obtain ⟨e,he,hee⟩:=List.mem_map.1 hv
  injection hee with h1 h2
  exact absurd h1 (hno e he)
 ·obtain ⟨l1,l2,hl,rfl⟩:=split_at hj
  have hval:e.val=v0:=by
   have hm:=h.mem (List.mem_of_getElem? hj)
   rw [hek] at hm
   exact nod_val h.nod hm hv
  have hm:m=l1.map (fun e=>(e.key,e.val))++(k,v0)::l2.map (fun e=>(e.key,e.val)):=by
   rw [← h.ent,hl];simp [hek,hval]
  have hl':(es.modify l1.length fun e=>{ e with key:=k,val:=v }).toList=l1++{ e with key:=k,val:=v }::l2:=by
   rw [Array.toList_modify,hl,modify_at]
  refine ⟨es.modify l1.length fun e=>{ e with key:=k,val:=v },_,_,hm,?_,?_⟩
  ·have hkj:((es[l1.length]?).map (·.key)).getD k=k:=by
    rw [← Array.getElem?_toList,hj];simp [hek]
   unfold Instr.mapUpdate
   simp only [Sem.run_bind,hu,Result.andThen_ok,hg,hc,hf,hkj,K.stays w hk,run_setMap h.blk]
  ·refine ⟨setBlock_get h.blk,by rw [hl'];simp,fun x hx=>?_,?_,fun x hx=>?_,?_⟩
   ·rw [hl'] at hx
    rcases List.mem_append.1 hx with hx | hx
    ·exact h.key x (by rw [hl];simp [hx])
    ·rcases List.mem_cons.1 hx with rfl | hx
     ·exact ⟨l,hk⟩
     ·exact h.key x (by rw [hl];simp [hx])
   ·have:=h.nod
    rw [hm] at this
    simpa using this
   ·rw [hl'] at hx
    rcases List.mem_append.1 hx with hx | hx
    ·exact h.brn x (by rw [hl];simp [hx])
    ·rcases List.mem_cons.1 hx with rfl | hx
     ·exact h.brn e (by rw [hl];simp)
     ·exact h.brn x (by rw [hl];simp [hx])
   ·have:=h.bnd
    rw [hl] at this
    rw [hl']
    simpa using this
theorem Mp.cut (K:Keyed P kt) (ht:P.underlying mt=some (.map kt et)) (h:Mp P kt w B m es clock) {k v0:Value} {l:Lit} (hk:keyOf P kt k=some l) (hv:(k,v0)∈m) (ty:TypeId) (k':TypeId) :
  ∃ es' m1 m2,m=m1++(k,v0)::m2∧(Builtin.delete_ #[mt,k'] ty #[.map (some B),k]).run P w = .ok (.tuple #[]) (setBlock w B (.map es' clock))∧Mp P kt (setBlock w B (.map es' clock)) B (m1++m2) es' clock:=by
 have hu:(underlying mt).run P w = .ok (.map kt et) w:=by simp [underlying,ht]
 have hg:(getObj B).run P w = .ok (.map es clock) w:=by simp [getObj,Sem.run,h.blk]
 have hc:=K.check w es.isEmpty hk
 rcases K.find w hk es.toList h.key with ⟨_,hno⟩ | ⟨j,e,hf,hj,hek⟩
 ·rw [← h.ent] at hv
  obtain ⟨e,he,hee⟩:=List.mem_map.1 hv
  injection hee with h1 h2
  exact absurd h1 (hno e he)
 ·obtain ⟨l1,l2,hl,rfl⟩:=split_at hj
  have hval:e.val=v0:=by
   have hm:=h.mem (List.mem_of_getElem? hj)
   rw [hek] at hm
   exact nod_val h.nod hm hv
  have hm:m=l1.map (fun e=>(e.key,e.val))++(k,v0)::l2.map (fun e=>(e.key,e.val)):=by
   rw [← h.ent,hl];simp [hek,hval]
  have hl':(es.eraseIdxIfInBounds l1.length).toList=l1++l2:=by
   rw [Array.toList_eraseIdxIfInBounds,hl,erase_at]
  have sub:∀ x,x∈l1++l2→x∈es.toList:=by
   intro x hx
   rw [hl]
   rcases List.mem_append.1 hx with hx | hx
   ·simp [hx]
   ·simp [hx]
  refine ⟨es.eraseIdxIfInBounds l1.length,_,_,hm,?_,?_⟩
  ·unfold Builtin.delete_
   simp only [List.getElem?_toArray,List.getElem?_cons_zero,List.getElem?_cons_succ,Sem.run_bind,Sem.run_pure,hu,Result.andThen_ok,hg,hc,hf,run_setMap h.blk]
  ·refine ⟨setBlock_get h.blk,by rw [hl'];simp,fun x hx=>?_,?_,fun x hx=>?_,?_⟩
   ·rw [hl'] at hx;exact h.key x (sub x hx)
   ·have:=h.nod
    rw [hm] at this
    simp only [List.map_append,List.map_cons] at this ⊢
    exact List.Nodup.sublist (List.Sublist.append_left (List.sublist_cons_self _ _) _) this
   ·rw [hl'] at hx;exact h.brn x (sub x hx)
   ·have:=h.bnd
    rw [hl] at this
    rw [hl']
    simp only [List.map_append,List.map_cons] at this ⊢
    exact List.Nodup.sublist (List.Sublist.append_left (List.sublist_cons_self _ _) _) this
theorem Mp.kept {w':World} (h:Mp P kt w B m es clock) (hb:w'.heap[B]? = w.heap[B]?):Mp P kt w' B m es clock:=⟨hb.trans h.blk,h.ent,h.key,h.nod,h.brn,h.bnd⟩
theorem Mp.lt (h:Mp P kt w B m es clock):B<w.heap.size:=(Array.getElem?_eq_some_iff.1 h.blk).1
end
end Go.Proofs.YtecnfgikbmcgoaaGreat
namespace Go.Proofs.YtecnfgikbmcgoaaGreat
abbrev Ky:=Int × Int
def klt (a b:Ky):Bool:=decide (a.1<b.1)||(decide (a.1=b.1)&&decide (a.2<b.2))
theorem klt_iff {a b:Ky}:klt a b=true↔a.1<b.1∨(a.1=b.1∧a.2<b.2):=by simp [klt]
theorem klt_irr (a:Ky):klt a a=false:=by simp [klt]
theorem klt_trans {a b c:Ky} (h:klt a b=true) (k:klt b c=true):klt a c=true:=by
 rw [klt_iff] at *;omega
theorem klt_asymm {a b:Ky} (h:klt a b=true):klt b a=false:=by
 cases hb:klt b a with
 | false=>rfl
 | true=>have:=klt_trans h hb;rw [klt_irr] at this;cases this
theorem klt_tri (a b:Ky):klt a b=true∨a=b∨klt b a=true:=by
 obtain ⟨a1,a2⟩:=a
 obtain ⟨b1,b2⟩:=b
 rw [klt_iff,klt_iff,Prod.mk.injEq]
 simp only
 omega
theorem klt_ne {a b:Ky} (h:klt a b=true):a≠b:=by
 intro e;rw [e,klt_irr] at h;cases h
section
variable {F:Type}
structure Hd (F:Type) where
 key:Ky
 f:F
 fr:Int
def Srt (l:List (Hd F)):Prop:=l.Pairwise fun x y=>klt x.key y.key=true
theorem Srt.uniq {l:List (Hd F)} (h:Srt l) {x y:Hd F} (hx:x∈l) (hy:y∈l) (e:x.key=y.key):x=y:=by
 induction l with
 | nil=>cases hx
 | cons a t ih =>
  have hp:=List.pairwise_cons.1 h
  rcases List.mem_cons.1 hx with rfl | hx'
  ·rcases List.mem_cons.1 hy with rfl | hy'
   ·rfl
   ·have:=hp.1 y hy';rw [e,klt_irr] at this;cases this
  ·rcases List.mem_cons.1 hy with rfl | hy'
   ·have:=hp.1 x hx';rw [e,klt_irr] at this;cases this
   ·exact ih hp.2 hx' hy'
theorem Srt.filter {l:List (Hd F)} (h:Srt l) (p:Hd F→Bool):Srt (l.filter p):=List.Pairwise.filter p h
def ins (h:Hd F) (l:List (Hd F)):List (Hd F):=(l.filter fun x=>klt x.key h.key)++h::(l.filter fun x=>klt h.key x.key)
def del (k:Ky) (l:List (Hd F)):List (Hd F):=l.filter fun x => !(x.key==k)
theorem mem_ins {h g:Hd F} {l:List (Hd F)}:g∈ins h l↔g=h∨(g∈l∧g.key≠h.key):=by
 simp only [ins,List.mem_append,List.mem_cons,List.mem_filter]
 constructor
 ·rintro (⟨h1,h2⟩ | rfl | ⟨h1,h2⟩)
  ·exact Or.inr ⟨h1,klt_ne h2⟩
  ·exact Or.inl rfl
  ·exact Or.inr ⟨h1,fun e=>klt_ne h2 e.symm⟩
 ·rintro (rfl | ⟨h1,h2⟩)
  ·exact Or.inr (Or.inl rfl)
  ·rcases klt_tri g.key h.key with h3 | h3 | h3
   ·exact Or.inl ⟨h1,h3⟩
   ·exact absurd h3 h2
   ·exact Or.inr (Or.inr ⟨h1,h3⟩)
theorem mem_del {k:Ky} {g:Hd F} {l:List (Hd F)}:g∈del k l↔g∈l∧g.key≠k:=by
 simp [del,List.mem_filter]
theorem Srt.ins {l:List (Hd F)} (hs:Srt l) (h:Hd F):Srt (ins h l):=by
 unfold Srt Go.Proofs.YtecnfgikbmcgoaaGreat.ins
 rw [List.pairwise_append]
 refine ⟨hs.filter _,List.pairwise_cons.2 ⟨fun y hy=>(List.mem_filter.1 hy).2,hs.filter _⟩,fun x hx y hy=>?_⟩
 have h1:=(List.mem_filter.1 hx).2
 rcases List.mem_cons.1 hy with rfl | hy
 ·exact h1
 ·exact klt_trans h1 (List.mem_filter.1 hy).2
theorem Srt.del {l:List (Hd F)} (hs:Srt l) (k:Ky):Srt (del k l):=hs.filter _
theorem Srt.ext {l m:List (Hd F)} (hl:Srt l) (hm:Srt m) (h:∀ x,x∈l↔x∈m):l=m:=by
 induction l generalizing m with
 | nil =>
  cases m with
  | nil=>rfl
  | cons b t=>have:=(h b).2 (by simp);cases this
 | cons a t ih =>
  cases m with
  | nil=>have:=(h a).1 (by simp);cases this
  | cons b u =>
   have ha:=List.pairwise_cons.1 hl
   have hb:=List.pairwise_cons.1 hm
   have hab:a=b:=by
    rcases List.mem_cons.1 ((h a).1 (by simp)) with e | e
    ·exact e
    ·rcases List.mem_cons.1 ((h b).2 (by simp)) with e' | e'
     ·exact e'.symm
     ·have h1:=ha.1 b e'
      have h2:=hb.1 a e
      rw [klt_asymm h1] at h2;cases h2
   subst hab
   congr 1
   refine ih ha.2 hb.2 (fun x=>?_)
   constructor
   ·intro hx
    rcases List.mem_cons.1 ((h x).1 (by simp [hx])) with e | e
    ·subst e;have:=ha.1 x hx;rw [klt_irr] at this;cases this
    ·exact e
   ·intro hx
    rcases List.mem_cons.1 ((h x).2 (by simp [hx])) with e | e
    ·subst e;have:=hb.1 x hx;rw [klt_irr] at this;cases this
    ·exact e
variable (cov:F→F→Bool)
def hides (g h:Hd F):Bool:=cov g.f h.f&&(!(cov h.f g.f)||klt g.key h.key)
def told (l:List (Hd F)) (n:Int):List (Hd F):=l.filter fun h => !(h.fr==n) && !(l.any fun g => !(g.fr==n)&&hides cov g h)
theorem mem_told {l:List (Hd F)} {n:Int} {h:Hd F}:h∈told cov l n↔h∈l∧h.fr≠n ∧ ∀ g∈l,g.fr≠n→hides cov g h=false:=by
 simp only [told,List.mem_filter,Bool.and_eq_true,Bool.not_eq_true',beq_eq_false_iff_ne,List.any_eq_false]
 constructor
 ·rintro ⟨h1,h2,h3⟩
  refine ⟨h1,h2,fun g hg hn=>?_⟩
  have:=h3 g hg
  simpa [hn] using this
 ·rintro ⟨h1,h2,h3⟩
  refine ⟨h1,h2,fun g hg=>?_⟩
  by_cases hn:g.fr=n
  ·simp [hn]
  ·simp [h3 g hg hn]
theorem Srt.told {l:List (Hd F)} (hs:Srt l) (n:Int):Srt (told cov l n):=hs.filter _
structure Pre (cov:F→F→Bool) (ok:F→Prop):Prop where
 refl:∀ f,ok f→cov f f=true
 trans:∀ f g h,ok f→ok g→ok h→cov f g=true→cov g h=true→cov f h=true
variable {cov}
variable {ok:F→Prop}
theorem hides_irr (g:Hd F):hides cov g g=false:=by
 simp only [hides,klt_irr,Bool.or_false]
 cases cov g.f g.f <;> rfl
theorem hides_trans (P:Pre cov ok) {a b c:Hd F} (oa:ok a.f) (ob:ok b.f) (oc:ok c.f) (h:hides cov a b=true) (k:hides cov b c=true):hides cov a c=true:=by
 simp only [hides,Bool.and_eq_true,Bool.or_eq_true,Bool.not_eq_true'] at *
 refine ⟨P.trans _ _ _ oa ob oc h.1 k.1,?_⟩
 cases hca:cov c.f a.f with
 | false=>exact Or.inl rfl
 | true =>
  right
  have hba:cov b.f a.f=true:=P.trans _ _ _ ob oc oa k.1 hca
  have hcb:cov c.f b.f=true:=P.trans _ _ _ oc oa ob hca h.1
  rcases h.2 with h2 | h2
  ·rw [hba] at h2;cases h2
  ·rcases k.2 with k2 | k2
   ·rw [hcb] at k2;cases k2
   ·exact klt_trans h2 k2
end
end Go.Proofs.YtecnfgikbmcgoaaGreat
namespace Go.Proofs.YtecnfgikbmcgoaaGreat
open Go.RowKit
def implP (y k n:Int) (s:ByteArray) (y' k' n':Int) (s':ByteArray):Prop :=
 ∀ kv nv sv,valOk kv nv sv=true→minI≤nv→nv≤maxI→lets y k n s kv nv sv=true→lets y' k' n' s' kv nv sv=true
theorem lets_any (k n:Int) (s:ByteArray) (k' n':Int) (s':ByteArray):lets 1 k n s k' n' s'=true:=by simp [lets]
theorem lets_kind {y k n:Int} {s:ByteArray} {k' n':Int} {s':ByteArray} (hy:y≠1) (h:lets y k n s k' n' s'=true):k=k':=by
 by_cases hk:k=k'
 ·exact hk
 ·have hk':(k != k')=true:=by simpa using hk
  simp [lets,hy,hk'] at h
theorem lets_off {y k n:Int} {s:ByteArray} {k' n':Int} {s':ByteArray} (hy:y≠1) (h:k≠k'):lets y k n s k' n' s'=false:=by
 cases hl:lets y k n s k' n' s'
 ·rfl
 ·exact absurd (lets_kind hy hl) h
def letsN (y n v:Int):Prop:=(y=2∧v=n)∨(y=3∧v≠n)∨(y=4∧v<n)∨(y=5∧v≤n)∨(y=6∧n<v)∨(y=7∧n≤v)
theorem lets_num {y n v:Int} {s sv:ByteArray} (h2:2≤y) (h7:y≤7) (hs:s.toList=[]) (hv:sv.toList=[]):lets y 1 n s 1 v sv=true↔letsN y n v:=by
 have hy:y=2∨y=3∨y=4∨y=5∨y=6∨y=7:=by omega
 rcases hy with rfl | rfl | rfl | rfl | rfl | rfl <;> simp [lets,letsN,hs,hv]
theorem num_empty {y n:Int} {s:ByteArray} (h:wayOk y 1 n s=true) (h1:y≠1):s.toList=[]:=val_int (way_val h h1)
theorem endLo_let {y n:Int} (h2:2≤y) (h7:y≤7) (hlo:minI≤n) (hhi:n≤maxI) (hn:nothingB y n=false):letsN y n (endLo y n)∧minI≤endLo y n∧endLo y n≤maxI∧(endLo y n=minI∨endLo y n=n∨endLo y n=n+1):=by
 have hy:y=2∨y=3∨y=4∨y=5∨y=6∨y=7:=by omega
 rcases hy with rfl | rfl | rfl | rfl | rfl | rfl <;> simp [nothingB] at hn <;> simp [endLo,letsN]
 ·omega
 ·split <;> simp_all [minI,maxI] <;> omega
 ·simp only [minI,maxI] at *;omega
 ·simp only [minI,maxI] at *;omega
 ·simp only [minI,maxI] at *;omega
 ·simp only [minI,maxI] at *;omega
theorem endHi_let {y n:Int} (h2:2≤y) (h7:y≤7) (hlo:minI≤n) (hhi:n≤maxI) (hn:nothingB y n=false):letsN y n (endHi y n)∧minI≤endHi y n∧endHi y n≤maxI∧(endHi y n=maxI∨endHi y n=n∨endHi y n=n - 1):=by
 have hy:y=2∨y=3∨y=4∨y=5∨y=6∨y=7:=by omega
 rcases hy with rfl | rfl | rfl | rfl | rfl | rfl <;> simp [nothingB] at hn <;> simp [endHi,letsN]
 ·omega
 ·split <;> simp_all [minI,maxI] <;> omega
 ·simp only [minI,maxI] at *;omega
 ·simp only [minI,maxI] at *;omega
 ·simp only [minI,maxI] at *;omega
 ·simp only [minI,maxI] at *;omega
theorem ends_span {y n v:Int} (h:letsN y n v) (hlo:minI≤v) (hhi:v≤maxI):endLo y n≤v∧v≤endHi y n:=by
 rcases h with ⟨rfl,h⟩ | ⟨rfl,h⟩ | ⟨rfl,h⟩ | ⟨rfl,h⟩ | ⟨rfl,h⟩ | ⟨rfl,h⟩
 ·simp [endLo,endHi];omega
 ·refine ⟨?_,?_⟩
  ·simp [endLo];split <;> omega
  ·simp [endHi];split <;> omega
 ·simp [endLo,endHi];omega
 ·simp [endLo,endHi];omega
 ·simp [endLo,endHi];omega
 ·simp [endLo,endHi];omega
theorem span_in {y' n' a b v:Int} (h3:y'≠3) (ha:letsN y' n' a) (hb:letsN y' n' b) (h1:a≤v) (h2:v≤b):letsN y' n' v:=by
 unfold letsN at *;omega
def letsT (y:Int) (s v:List UInt8):Prop:=(y=2∧v=s)∨(y=3∧v≠s)∨(y=8∧s <+: v)∨(y=9∧s <:+ v)∨(y=10∧s <:+: v)
theorem contains_iff (s p:List UInt8):Lib.contains s p=true↔p <:+: s:=by
 constructor
 ·intro h
  rcases Lib.index_spec s p with ⟨h1,_⟩ | ⟨i,h1,h2,h3,_⟩
  ·simp [Lib.contains,h1] at h
  ·simp only [Lib.occAt,List.isPrefixOf_iff_prefix] at h3
   obtain ⟨t,ht⟩:=h3
   exact ⟨s.take i,t,by rw [List.append_assoc,ht,List.take_append_drop]⟩
 ·rintro ⟨a,b,rfl⟩
  rcases Lib.index_spec (a++p++b) p with ⟨_,h2⟩ | ⟨i,h1,_⟩
  ·have:=h2 a.length (by simp)
   simp [Lib.occAt] at this
   rw [List.isPrefixOf_iff_prefix.2 (List.prefix_append p b)] at this
   cases this
  ·unfold Lib.contains;rw [h1];simp
theorem toList_data (s:ByteArray):s.toList=s.data.toList:=ByteArray.toList_eq s
theorem lets_text {y:Int} {s v:ByteArray} (hy:y=2∨y=3∨y=8∨y=9∨y=10):lets y 2 0 s 2 0 v=true↔letsT y s.data.toList v.data.toList:=by
 rcases hy with rfl | rfl | rfl | rfl | rfl
 ·simp [lets,letsT,toList_data]
 ·simp [lets,letsT,toList_data]
 ·rw [show lets 8 2 0 s 2 0 v=Lib.hasPrefix v.data.toList s.data.toList by simp [lets],Lib.hasPrefix,List.isPrefixOf_iff_prefix];simp [letsT]
 ·rw [show lets 9 2 0 s 2 0 v=Lib.hasSuffix v.data.toList s.data.toList by simp [lets],Lib.hasSuffix,List.isSuffixOf_iff_suffix];simp [letsT]
 ·simp [lets,letsT,contains_iff]
theorem way_texts {y:Int} {s:ByteArray} (h:wayOk y 2 0 s=true):y=2∨y=3∨y=8∨y=9∨y=10:=by
 have hc:=way_cases h
 by_cases h1:y=1
 ·subst h1;simp [wayOk_any] at h
 ·by_cases h4:4≤y∧y≤7
  ·have:=way_mid h h4.1 h4.2;omega
  ·omega
end Go.Proofs.YtecnfgikbmcgoaaGreat
