import Derived.Test.YtecnfgikbmcgoaaGreatG1
import Derived.Test.YtecnfgikbmcgoaaGreatRows
import Derived.Test.YtecnfgikbmcgoaaGreatG0
import Derived.WalkKit
import Derived.WalkSpells
import Derived.WalkLawsBesides
import Derived.Deep.Light
import Derived.Deep.RegionHeld3
import Derived.Deep.RegionWith
namespace Go.Proofs.YtecnfgikbmcgoaaGreat
open Go.RowKit
theorem noText_data:noText.data.toList=[]:=rfl
theorem empty_data {s:ByteArray} (h:s.toList=[]):s.data.toList=[]:=by rw [← toList_data];exact h
theorem data_empty {s:ByteArray} (h:s.data.toList=[]):s.toList=[]:=by rw [toList_data];exact h
theorem isEmpty_data (s:ByteArray):s.toList.isEmpty=true↔s.data.toList=[]:=by rw [toList_data];simp
theorem texts_sound {y:Int} {s:ByteArray} {y':Int} {s' v:ByteArray} (hw:wayOk y 2 0 s=true) (hw':wayOk y' 2 0 s'=true) (h3:y'≠3) (h:textsB y s y' s'=true) (hv:v.size≤32)
  (hl:letsT y s.data.toList v.data.toList):letsT y' s'.data.toList v.data.toList:=by
 have hy:=way_texts hw
 have hy':=way_texts hw'
 have hs:s.data.toList.length=s.size:=by simp
 have hvs:v.data.toList.length=v.size:=by simp
 unfold textsB at h
 by_cases e3:y=3
 ·subst e3
  simp only [beq_self_eq_true,if_true,Bool.and_eq_true,bne_iff_ne,isEmpty_data] at h
  obtain ⟨h2,he⟩:=h
  rw [he]
  unfold letsT
  have:y'=8∨y'=9∨y'=10:=by omega
  rcases this with rfl | rfl | rfl <;> simp
 ·have e3':(y==3)=false:=by simpa using e3
  simp only [e3',Bool.false_eq_true,if_false] at h
  cases hb:lets y' 2 0 s' 2 0 s
  ·simp [hb] at h
  ·simp only [hb,Bool.not_true,Bool.false_eq_true,if_false] at h
   have hb':=(lets_text hy').1 hb
   have same:v.data.toList=s.data.toList→letsT y' s'.data.toList v.data.toList:=fun e=>by rw [e];exact hb'
   by_cases e2:y=2
   ·subst e2;exact same (by simpa [letsT] using hl)
   ·by_cases h32:s.size=32
    ·refine same ?_
     unfold letsT at hl
     have hlen:v.data.toList.length≤s.data.toList.length:=by omega
     rcases hl with ⟨e,_⟩ | ⟨e,_⟩ | ⟨_,hl⟩ | ⟨_,hl⟩ | ⟨_,hl⟩
     ·exact absurd e e2
     ·exact absurd e e3
     ·exact (hl.eq_of_length (Nat.le_antisymm hl.length_le hlen)).symm
     ·exact (hl.eq_of_length (Nat.le_antisymm hl.length_le hlen)).symm
     ·exact (hl.eq_of_length (Nat.le_antisymm hl.length_le hlen)).symm
    ·have e2':(y==2||((s.size:Int)==32))=false:=by simp;omega
     simp only [e2',Bool.false_eq_true,if_false] at h
     by_cases e2'':y'=2
     ·subst e2'';simp at h
     ·have e4:(y'==2)=false:=by simpa using e2''
      simp only [e4,Bool.false_eq_true,if_false,Bool.or_eq_true,beq_iff_eq,isEmpty_data] at h
      have hl8:y=8∨y=9∨y=10:=by omega
      have hy8:y'=8∨y'=9∨y'=10:=by omega
      have hin:s.data.toList <:+: v.data.toList:=by
       unfold letsT at hl
       rcases hl with ⟨e,_⟩ | ⟨e,_⟩ | ⟨_,hl⟩ | ⟨_,hl⟩ | ⟨_,hl⟩
       ·omega
       ·omega
       ·exact hl.isInfix
       ·exact hl.isInfix
       ·exact hl
      rcases h with (h | h) | h
      ·subst h
       unfold letsT at hb' ⊢
       have:s'.data.toList <:+: s.data.toList:=by simpa using hb'
       simp
       exact List.IsInfix.trans this hin
      ·subst h
       unfold letsT at hb' hl ⊢
       rcases hl8 with rfl | rfl | rfl
       ·simp at hb' hl ⊢;exact hb'.trans hl
       ·simp at hb' hl ⊢;exact hb'.trans hl
       ·simp at hb' hl ⊢;exact hb'.trans hl
      ·rw [h];unfold letsT
       rcases hy8 with rfl | rfl | rfl <;> simp
theorem within_sound {y k n:Int} {s:ByteArray} {y' k' n':Int} {s':ByteArray} (hw:wayOk y k n s=true) (hw':wayOk y' k' n' s'=true) (_hlo:minI≤n) (_hhi:n≤maxI)
  (h:withinB y k n s y' k' n' s'=true):implP y k n s y' k' n' s':=by
 intro kv nv sv hv hn1 hn2 hl
 by_cases hy':y'=1
 ·subst hy';exact lets_any ..
 have hy1':(y'==1)=false:=by simpa using hy'
 by_cases hno:nothingB y n=true
 ·simp only [nothingB,Bool.or_eq_true,Bool.and_eq_true,beq_iff_eq] at hno
  rcases hno with ⟨rfl,rfl⟩ | ⟨rfl,rfl⟩
  ·obtain ⟨rfl,he⟩:=way_mid hw (by omega) (by omega)
   obtain rfl:=lets_kind (by omega) hl
   have:=(lets_num (by omega) (by omega) he (val_int hv)).1 hl
   unfold letsN at this;omega
  ·obtain ⟨rfl,he⟩:=way_mid hw (by omega) (by omega)
   obtain rfl:=lets_kind (by omega) hl
   have:=(lets_num (by omega) (by omega) he (val_int hv)).1 hl
   unfold letsN at this;omega
 have hno':nothingB y n=false:=by simpa using hno
 unfold withinB at h
 simp only [hy1',hno',Bool.or_self,Bool.false_eq_true,if_false] at h
 by_cases hyk:y=1∨k≠k'
 ·have:(y==1||k != k')=true:=by simpa using hyk
  simp [this] at h
 obtain ⟨hy,rfl⟩:y≠1∧k=k':=by omega
 have e1:(y==1||k != k)=false:=by simpa using hy
 simp only [e1,Bool.false_eq_true,if_false] at h
 obtain rfl:=lets_kind hy hl
 by_cases hy3:y'=3
 ·subst hy3
  simp only [beq_self_eq_true,if_true] at h
  cases hb:lets 3 k n' s' k nv sv
  ·have:nv=n'∧sv.toList=s'.toList:=by simpa [lets] using hb
   have e:lets y k n s k nv sv=lets y k n s k n' s':=by
    have e2:sv.data.toList=s'.data.toList:=by rw [← toList_data, ← toList_data];exact this.2
    unfold lets
    rw [this.1,this.2,e2]
   rw [← e,hl] at h;simp at h
  ·rfl
 have e3:(y'==3)=false:=by simpa using hy3
 simp only [e3,Bool.false_eq_true,if_false] at h
 rcases val_kind hv with rfl | rfl | rfl
 ·simp only [beq_self_eq_true,if_true,numbersB,Bool.and_eq_true] at h
  have he:=num_empty hw hy
  have he':=num_empty hw' hy'
  obtain ⟨a1,a2⟩:=way_num hw hy
  obtain ⟨b1,b2⟩:=way_num hw' hy'
  have l1:=(lets_num b1 b2 he' noText_list).1 h.1
  have l2:=(lets_num b1 b2 he' noText_list).1 h.2
  have hl':=(lets_num a1 a2 he (val_int hv)).1 hl
  obtain ⟨s1,s2⟩:=ends_span hl' hn1 hn2
  exact (lets_num b1 b2 he' (val_int hv)).2 (span_in hy3 l1 l2 s1 s2)
 ·have e2:((2:Int)==1)=false:=rfl
  simp only [e2,Bool.false_eq_true,if_false,beq_self_eq_true,if_true] at h
  obtain rfl:=val_text (way_val hw hy)
  obtain rfl:=val_text (way_val hw' hy')
  obtain rfl:=val_text hv
  exact (lets_text (way_texts hw')).2 (texts_sound hw hw' hy3 h (val_size hv) ((lets_text (way_texts hw)).1 hl))
 ·have e2:((3:Int)==1)=false:=rfl
  have e4:((3:Int)==2)=false:=rfl
  simp only [e2,e4,Bool.false_eq_true,if_false,flagsB] at h
  obtain ⟨hnv,hsv⟩:=val_flag hv
  have hd:sv.data.toList=noText.data.toList:=by rw [noText_data];exact empty_data hsv
  have e:∀ y n s,lets y 3 n s 3 nv sv=lets y 3 n s 3 nv noText:=fun y n s=>by
   unfold lets;rw [hsv,noText_list,hd]
  rw [e] at hl ⊢
  rcases hnv with rfl | rfl
  ·simp only [hl,Bool.true_and,Bool.not_not,Bool.and_eq_true] at h;exact h.1
  ·simp only [hl,Bool.true_and,Bool.not_not,Bool.and_eq_true] at h;exact h.2
def aT:ByteArray:=⟨#[97]⟩
def zT:ByteArray:=⟨#[122]⟩
def oT:ByteArray:=⟨#[0]⟩
def fT:ByteArray:=⟨#[255]⟩
def piece (n:Int) (s:ByteArray):List (Int × Int × ByteArray) :=
 [(1,n,noText),(1,wrap64 (n+1),noText),(1,wrap64 (n - 1),noText),(2,0,s)] ++
  (if s.size<32 then [(2,0,s++aT),(2,0,aT++s),(2,0,s++zT),(2,0,zT++s),(2,0,s++oT),(2,0,oT++s),(2,0,s++fT),(2,0,fT++s)] else [])
def triedL (n:Int) (s:ByteArray) (n':Int) (s':ByteArray):List (Int × Int × ByteArray) :=
 [(3,0,noText),(3,1,noText),(1,minI,noText),(1,maxI,noText)]++piece n noText++piece n' s++piece 0 s'
def Wit (y k n:Int) (s:ByteArray) (y' k' n':Int) (s':ByteArray):Prop :=
 ∃ v∈triedL n s n' s',lets y k n s v.1 v.2.1 v.2.2=true∧lets y' k' n' s' v.1 v.2.1 v.2.2=false
theorem app_data (s t:ByteArray):(s++t).data.toList=s.data.toList++t.data.toList:=by simp
theorem wit_mk {y k n:Int} {s:ByteArray} {y' k' n':Int} {s':ByteArray} (kv nv:Int) (sv:ByteArray) (hm:(kv,nv,sv)∈triedL n s n' s') (h1:lets y k n s kv nv sv=true) (h2:lets y' k' n' s' kv nv sv=false):Wit y k n s y' k' n' s' :=
 ⟨_,hm,h1,h2⟩
section
variable (n:Int) (s:ByteArray) (n':Int) (s':ByteArray)
theorem m_f0:(3,0,noText)∈triedL n s n' s':=by simp [triedL]
theorem m_f1:(3,1,noText)∈triedL n s n' s':=by simp [triedL]
theorem m_min:(1,minI,noText)∈triedL n s n' s':=by simp [triedL]
theorem m_max:(1,maxI,noText)∈triedL n s n' s':=by simp [triedL]
theorem m_an:(1,n,noText)∈triedL n s n' s':=by simp [triedL,piece]
theorem m_anp:(1,wrap64 (n+1),noText)∈triedL n s n' s':=by simp [triedL,piece]
theorem m_anm:(1,wrap64 (n - 1),noText)∈triedL n s n' s':=by simp [triedL,piece]
theorem m_bn:(1,n',noText)∈triedL n s n' s':=by simp [triedL,piece]
theorem m_0:(1,0,noText)∈triedL n s n' s':=by simp [triedL,piece]
theorem m_e:(2,0,noText)∈triedL n s n' s':=by simp [triedL,piece]
theorem m_as:(2,0,s)∈triedL n s n' s':=by simp [triedL,piece]
theorem m_bs:(2,0,s')∈triedL n s n' s':=by simp [triedL,piece]
theorem m_ea:(2,0,noText++aT)∈triedL n s n' s':=by simp [triedL,piece,show noText.size<32 by decide]
theorem m_ez:(2,0,noText++zT)∈triedL n s n' s':=by simp [triedL,piece,show noText.size<32 by decide]
theorem m_sa (h:s.size<32):(2,0,s++aT)∈triedL n s n' s':=by simp [triedL,piece,h]
theorem m_sz (h:s.size<32):(2,0,s++zT)∈triedL n s n' s':=by simp [triedL,piece,h]
theorem m_as' (h:s.size<32):(2,0,aT++s)∈triedL n s n' s':=by simp [triedL,piece,h]
theorem m_zs (h:s.size<32):(2,0,zT++s)∈triedL n s n' s':=by simp [triedL,piece,h]
end
theorem wit_text {y:Int} {s:ByteArray} {y':Int} {s':ByteArray} (hw:wayOk y 2 0 s=true) (hw':wayOk y' 2 0 s'=true) (v:ByteArray) (hm:(2,0,v)∈triedL 0 s 0 s')
  (h1:letsT y s.data.toList v.data.toList) (h2:¬ letsT y' s'.data.toList v.data.toList):Wit y 2 0 s y' 2 0 s':=by
 refine wit_mk 2 0 v hm ((lets_text (way_texts hw)).2 h1) ?_
 cases h:lets y' 2 0 s' 2 0 v
 ·rfl
 ·exact absurd ((lets_text (way_texts hw')).1 h) h2
theorem letsT_in {y':Int} {t v:List UInt8} (h3:y'≠3) (h:letsT y' t v):t <:+: v:=by
 rcases h with ⟨_,h⟩ | ⟨h,_⟩ | ⟨_,h⟩ | ⟨_,h⟩ | ⟨_,h⟩
 ·rw [h];exact List.infix_refl t
 ·exact absurd h h3
 ·exact h.isInfix
 ·exact h.isInfix
 ·exact h
theorem in_single {t:List UInt8} {c:UInt8} (h:t <:+: [c]):t=[]∨t=[c]:=by
 cases t with
 | nil=>exact Or.inl rfl
 | cons d t =>
  refine Or.inr (h.eq_of_length ?_)
  have:=h.length_le
  simp at this ⊢
  simp [this]
theorem in_empty {t:List UInt8} (h:t <:+: []):t=[]:=by
 have:=h.length_le
 exact List.length_eq_zero_iff.1 (by simpa using this)
theorem pre_head {t s:List UInt8} {c:UInt8} (h:t <+: c::s) (hne:t≠[]):t.head? = some c:=by
 obtain ⟨p,hp⟩:=h
 cases t with
 | nil=>exact absurd rfl hne
 | cons d t=>simp at hp;simp [hp.1]
theorem suf_last {t s:List UInt8} {c:UInt8} (h:t <:+ s++[c]) (hne:t≠[]):t.getLast? = some c:=by
 obtain ⟨p,hp⟩:=h
 have:=congrArg List.getLast? hp
 rw [List.getLast?_append,List.getLast?_append] at this
 cases hl:t.getLast? with
 | none=>exact absurd (List.getLast?_eq_none_iff.1 hl) hne
 | some d=>rw [hl] at this;simpa using this
theorem texts_wit {y:Int} {s:ByteArray} {y':Int} {s':ByteArray} (hw:wayOk y 2 0 s=true) (hw':wayOk y' 2 0 s'=true) (h3:y'≠3) (h:textsB y s y' s'=false):Wit y 2 0 s y' 2 0 s':=by
 have hy:=way_texts hw
 have hy':=way_texts hw'
 have hs32:=val_size (way_text hw)
 have da:(noText++aT).data.toList=[97]:=rfl
 have dz:(noText++zT).data.toList=[122]:=rfl
 have de:noText.data.toList=[]:=rfl
 unfold textsB at h
 by_cases e3:y=3
 ·subst e3
  simp only [beq_self_eq_true,if_true] at h
  have h2:s'.data.toList=[]→y'=2:=fun e=>by
   have:s'.toList.isEmpty=true:=(isEmpty_data s').2 e
   rw [this] at h;simpa using h
  by_cases hs:s'.data.toList=[]
  ·obtain rfl:=h2 hs
   by_cases ha:s.data.toList=[97]
   ·refine wit_text hw hw' _ (m_ez 0 s 0 s') (by rw [dz,ha];simp [letsT]) ?_
    rw [dz,hs];simp [letsT]
   ·refine wit_text hw hw' _ (m_ea 0 s 0 s') (by rw [da];simp [letsT];exact fun e=>ha e.symm) ?_
    rw [da,hs];simp [letsT]
  ·by_cases hs0:s.data.toList=[]
   ·by_cases ha:s'.data.toList=[97]
    ·refine wit_text hw hw' _ (m_ez 0 s 0 s') (by rw [dz,hs0];simp [letsT]) (fun hl=>?_)
     rw [dz] at hl
     rcases in_single (letsT_in h3 hl) with e | e
     ·exact hs e
     ·rw [ha] at e;simp at e
    ·refine wit_text hw hw' _ (m_ea 0 s 0 s') (by rw [da,hs0];simp [letsT]) (fun hl=>?_)
     rw [da] at hl
     rcases in_single (letsT_in h3 hl) with e | e
     ·exact hs e
     ·exact ha e
   ·refine wit_text hw hw' _ (m_e 0 s 0 s') (by rw [de];exact Or.inr (Or.inl ⟨rfl,fun e=>hs0 e.symm⟩)) (fun hl=>?_)
    rw [de] at hl
    exact hs (in_empty (letsT_in h3 hl))
 ·have e3':(y==3)=false:=by simpa using e3
  simp only [e3',Bool.false_eq_true,if_false] at h
  have hself:letsT y s.data.toList s.data.toList:=by
   rcases hy with rfl | rfl | rfl | rfl | rfl
   ·simp [letsT]
   ·exact absurd rfl e3
   ·simp [letsT]
   ·simp [letsT]
   ·simp [letsT]
  cases hb:lets y' 2 0 s' 2 0 s
  ·exact wit_mk 2 0 s (m_as 0 s 0 s') ((lets_text hy).2 hself) hb
  ·simp only [hb,Bool.not_true,Bool.false_eq_true,if_false] at h
   have hb':=(lets_text hy').1 hb
   by_cases e2:(y==2||((s.size:Int)==32))=true
   ·rw [if_pos e2] at h;cases h
   ·rw [if_neg e2] at h
    have e2':y≠2∧s.size≠32:=by simp at e2;omega
    have hlt:s.size<32:=by omega
    have hy8:y=8∨y=9∨y=10:=by omega
    have pa:(s++aT).data.toList=s.data.toList++[97]:=app_data s aT
    have pz:(s++zT).data.toList=s.data.toList++[122]:=app_data s zT
    have qa:(aT++s).data.toList=97::s.data.toList:=app_data aT s
    have qz:(zT++s).data.toList=122::s.data.toList:=app_data zT s
    have suf:∀ c:UInt8,y=8∨y=10→letsT y s.data.toList (s.data.toList++[c]):=fun c hc=>by
     rcases hc with rfl | rfl
     ·simp [letsT]
     ·simp only [letsT];simp;exact (List.prefix_append _ _).isInfix
    have pre:∀ c:UInt8,y=9∨y=10→letsT y s.data.toList (c::s.data.toList):=fun c hc=>by
     rcases hc with rfl | rfl
     ·simp only [letsT];simp
     ·simp only [letsT];simp;exact (List.suffix_cons c _).isInfix
    by_cases e4:y'=2
    ·subst e4
     have hss:s.data.toList=s'.data.toList:=by simpa [letsT] using hb'
     by_cases h9:y=9
     ·refine wit_text hw hw' _ (m_as' 0 s 0 s' hlt) (by rw [qa];exact pre 97 (Or.inl h9)) ?_
      rw [qa, ← hss];simp [letsT]
     ·refine wit_text hw hw' _ (m_sa 0 s 0 s' hlt) (by rw [pa];exact suf 97 (by omega)) ?_
      rw [pa, ← hss];simp [letsT]
    ·have e4':(y'==2)=false:=by simpa using e4
     simp only [e4',Bool.false_eq_true,if_false,Bool.or_eq_false_iff] at h
     obtain ⟨⟨h10,hyy⟩,hse⟩:=h
     have h10':y'≠10:=by simpa using h10
     have hyy':y'≠y:=by simpa using hyy
     have hne:s'.data.toList≠[]:=fun e=>by
      rw [(isEmpty_data s').2 e] at hse;cases hse
     have hy89:y'=8∨y'=9:=by omega
     rcases hy89 with rfl | rfl
     ·by_cases hh:s'.data.toList.head? = some 97
      ·refine wit_text hw hw' _ (m_zs 0 s 0 s' hlt) (by rw [qz];exact pre 122 (by omega)) (fun hl=>?_)
       rw [qz] at hl
       have:=pre_head (by simpa [letsT] using hl) hne
       rw [hh] at this;simp at this
      ·refine wit_text hw hw' _ (m_as' 0 s 0 s' hlt) (by rw [qa];exact pre 97 (by omega)) (fun hl=>?_)
       rw [qa] at hl
       exact hh (pre_head (by simpa [letsT] using hl) hne)
     ·by_cases hh:s'.data.toList.getLast? = some 97
      ·refine wit_text hw hw' _ (m_sz 0 s 0 s' hlt) (by rw [pz];exact suf 122 (by omega)) (fun hl=>?_)
       rw [pz] at hl
       have:=suf_last (s:=s.data.toList) (by simpa [letsT] using hl) hne
       rw [hh] at this;simp at this
      ·refine wit_text hw hw' _ (m_sa 0 s 0 s' hlt) (by rw [pa];exact suf 97 (by omega)) (fun hl=>?_)
       rw [pa] at hl
       exact hh (suf_last (s:=s.data.toList) (by simpa [letsT] using hl) hne)
theorem lets_self {y k n:Int} {s:ByteArray} (hv:y=2∨y=5∨y=7∨y=8∨y=9∨y=10):lets y k n s k n s=true:=by
 rcases hv with rfl | rfl | rfl | rfl | rfl | rfl
 ·simp [lets]
 ·simp [lets]
 ·simp [lets]
 ·rw [show lets 8 k n s k n s=Lib.hasPrefix s.data.toList s.data.toList by simp [lets],Lib.hasPrefix,List.isPrefixOf_iff_prefix];exact List.prefix_refl _
 ·rw [show lets 9 k n s k n s=Lib.hasSuffix s.data.toList s.data.toList by simp [lets],Lib.hasSuffix,List.isSuffixOf_iff_suffix];exact List.suffix_refl _
 ·simp [lets,contains_iff]
theorem lets_text_irr (y k n:Int) (s:ByteArray) (k' n':Int) {t t':ByteArray} (h:t.toList=t'.toList):lets y k n s k' n' t=lets y k n s k' n' t':=by
 have h':t.data.toList=t'.data.toList:=by rw [← toList_data, ← toList_data];exact h
 unfold lets;rw [h,h']
theorem some_let {y k n:Int} {s:ByteArray} (n':Int) (s':ByteArray) (hw:wayOk y k n s=true) (hy:y≠1) (hlo:minI≤n) (hhi:n≤maxI) (hno:nothingB y n=false) :
  ∃ v∈triedL n s n' s',v.1=k∧lets y k n s v.1 v.2.1 v.2.2=true:=by
 have hv:=way_val hw hy
 have hc:=way_cases hw
 rcases val_kind hv with rfl | rfl | rfl
 ·have he:=val_int hv
  obtain ⟨a1,a2⟩:=way_num hw hy
  have key:∀ x,letsN y n x→lets y 1 n s 1 x noText=true:=fun x hx=>(lets_num a1 a2 he noText_list).2 hx
  by_cases h:y=2∨y=5∨y=7
  ·exact ⟨_,m_an n s n' s',rfl,key n (by unfold letsN;omega)⟩
  ·by_cases h3:y=3
   ·by_cases hn:n=minI
    ·exact ⟨_,m_max n s n' s',rfl,key maxI (by unfold letsN minI maxI at *;omega)⟩
    ·exact ⟨_,m_min n s n' s',rfl,key minI (by unfold letsN;omega)⟩
   ·simp [nothingB] at hno
    by_cases h4:y=4
    ·have:n≠minI:=fun e=>by simp [h4,e] at hno
     exact ⟨_,m_min n s n' s',rfl,key minI (by unfold letsN;omega)⟩
    ·have h6:y=6:=by omega
     have:n≠maxI:=fun e=>by simp [h6,e] at hno
     exact ⟨_,m_max n s n' s',rfl,key maxI (by unfold letsN;omega)⟩
 ·obtain rfl:=val_text hv
  by_cases h3:y=3
  ·subst h3
   by_cases hs:s.toList=[]
   ·refine ⟨_,m_ea 0 s n' s',rfl,(lets_text (way_texts hw)).2 ?_⟩
    have:(noText++aT).data.toList=[97]:=rfl
    simp only [this,empty_data hs];simp [letsT]
   ·refine ⟨_,m_e 0 s n' s',rfl,(lets_text (way_texts hw)).2 ?_⟩
    exact Or.inr (Or.inl ⟨rfl,fun e=>hs (data_empty e.symm)⟩)
  ·have:=way_texts hw
   exact ⟨_,m_as 0 s n' s',rfl,lets_self (by omega)⟩
 ·obtain ⟨hn,hs⟩:=val_flag hv
  have hy23:y=2∨y=3:=by
   by_cases h3:y≤3
   ·omega
   ·by_cases h7:y≤7
    ·have:=way_mid hw (by omega) h7;omega
    ·have:=way_hi hw (by omega) (by omega);omega
  rcases hy23 with rfl | rfl <;> rcases hn with rfl | rfl
  ·exact ⟨_,m_f0 0 s n' s',rfl,by simp [lets,hs,noText_list]⟩
  ·exact ⟨_,m_f1 1 s n' s',rfl,by simp [lets,hs,noText_list]⟩
  ·exact ⟨_,m_f1 0 s n' s',rfl,by simp [lets]⟩
  ·exact ⟨_,m_f0 1 s n' s',rfl,by simp [lets]⟩
theorem within_wit {y k n:Int} {s:ByteArray} {y' k' n':Int} {s':ByteArray} (hw:wayOk y k n s=true) (hw':wayOk y' k' n' s'=true) (hlo:minI≤n) (hhi:n≤maxI)
  (h:withinB y k n s y' k' n' s'=false):Wit y k n s y' k' n' s':=by
 by_cases hy':y'=1
 ·subst hy';simp [withinB] at h
 have hy1':(y'==1)=false:=by simpa using hy'
 cases hno:nothingB y n
 ·unfold withinB at h
  simp only [hy1',hno,Bool.or_self,Bool.false_eq_true,if_false] at h
  by_cases hy:y=1
  ·subst hy
   by_cases hk:k'=3
   ·exact wit_mk 1 0 noText (m_0 n s n' s') (lets_any ..) (lets_off hy' (by omega))
   ·exact wit_mk 3 0 noText (m_f0 n s n' s') (lets_any ..) (lets_off hy' (by omega))
  by_cases hk:k=k'
  ·subst hk
   have e1:(y==1||k != k)=false:=by simpa using hy
   simp only [e1,Bool.false_eq_true,if_false] at h
   by_cases hy3:y'=3
   ·subst hy3
    simp only [beq_self_eq_true,if_true] at h
    have hl:lets y k n s k n' s'=true:=by simpa using h
    have hv':=way_val hw' hy'
    have hoff:∀ t:ByteArray,t.toList=s'.toList→lets 3 k n' s' k n' t=false:=fun t ht=>by simp [lets,ht]
    rcases val_kind hv' with rfl | rfl | rfl
    ·have he:=val_int hv'
     refine wit_mk 1 n' noText (m_bn n s n' s') ?_ (hoff _ (by rw [he];exact noText_list))
     rw [lets_text_irr y 1 n s 1 n' (show noText.toList=s'.toList by rw [he];exact noText_list)];exact hl
    ·obtain rfl:=val_text hv'
     exact wit_mk 2 0 s' (m_bs n s 0 s') hl (hoff _ rfl)
    ·obtain ⟨hn,he⟩:=val_flag hv'
     have ht:noText.toList=s'.toList:=by rw [he];exact noText_list
     rcases hn with rfl | rfl
     ·refine wit_mk 3 0 noText (m_f0 n s 0 s') ?_ (hoff _ ht)
      rw [lets_text_irr y 3 n s 3 0 ht];exact hl
     ·refine wit_mk 3 1 noText (m_f1 n s 1 s') ?_ (hoff _ ht)
      rw [lets_text_irr y 3 n s 3 1 ht];exact hl
   have e3:(y'==3)=false:=by simpa using hy3
   simp only [e3,Bool.false_eq_true,if_false] at h
   have hv:=way_val hw hy
   rcases val_kind hv with rfl | rfl | rfl
   ·simp only [beq_self_eq_true,if_true,numbersB,Bool.and_eq_false_iff] at h
    have he:=num_empty hw hy
    obtain ⟨a1,a2⟩:=way_num hw hy
    obtain ⟨l1,l2,l3,l4⟩:=endLo_let a1 a2 hlo hhi hno
    obtain ⟨r1,r2,r3,r4⟩:=endHi_let a1 a2 hlo hhi hno
    rcases h with h | h
    ·refine wit_mk 1 (endLo y n) noText ?_ ((lets_num a1 a2 he noText_list).2 l1) h
     rcases l4 with e | e | e
     ·rw [e];exact m_min n s n' s'
     ·rw [e];exact m_an n s n' s'
     ·have:endLo y n=wrap64 (n+1):=by rw [e,IntWalk.wrap64_in];unfold minI maxI at *;omega
      rw [this];exact m_anp n s n' s'
    ·refine wit_mk 1 (endHi y n) noText ?_ ((lets_num a1 a2 he noText_list).2 r1) h
     rcases r4 with e | e | e
     ·rw [e];exact m_max n s n' s'
     ·rw [e];exact m_an n s n' s'
     ·have:endHi y n=wrap64 (n - 1):=by rw [e,IntWalk.wrap64_in];unfold minI maxI at *;omega
      rw [this];exact m_anm n s n' s'
   ·have e2:((2:Int)==1)=false:=rfl
    simp only [e2,Bool.false_eq_true,if_false,beq_self_eq_true,if_true] at h
    obtain rfl:=val_text hv
    obtain rfl:=val_text (way_val hw' hy')
    exact texts_wit hw hw' hy3 h
   ·have e2:((3:Int)==1)=false:=rfl
    have e4:((3:Int)==2)=false:=rfl
    simp only [e2,e4,Bool.false_eq_true,if_false,flagsB,Bool.and_eq_false_iff,Bool.not_eq_false',Bool.and_eq_true,Bool.not_eq_true'] at h
    rcases h with h | h
    ·exact wit_mk 3 0 noText (m_f0 n s n' s') h.1 h.2
    ·exact wit_mk 3 1 noText (m_f1 n s n' s') h.1 h.2
  ·obtain ⟨v,hm,hk1,hl⟩:=some_let n' s' hw hy hlo hhi hno
   exact ⟨v,hm,hl,lets_off hy' (by rw [hk1];omega)⟩
 ·unfold withinB at h
  simp [hno] at h
def cT (k:Nat):ByteArray:=(⟨#[97,122,0,255]⟩:ByteArray).extract k (k+1)
theorem cT0:cT 0=aT:=by decide
theorem cT1:cT 1=zT:=by decide
theorem cT2:cT 2=oT:=by decide
theorem cT3:cT 3=fT:=by decide
theorem cT_size (k:Nat) (h:k<4):(cT k).size=1:=by
 have:k=0∨k=1∨k=2∨k=3:=by omega
 rcases this with rfl | rfl | rfl | rfl <;> decide
def tnum (n n':Int) (i:Nat):Int:=if i=0 then n else if i=1 then n' else 0
def ttxt (s s':ByteArray) (i:Nat):ByteArray:=if i=0 then noText else if i=1 then s else s'
def nums (n:Int):List (Int × Int × ByteArray):=[(1,n,noText),(1,wrap64 (n+1),noText),(1,wrap64 (n - 1),noText)]
def ext (s:ByteArray) (k:Nat):List (Int × Int × ByteArray):=[(2,0,s++cT k),(2,0,cT k++s)]
def extsTo (s:ByteArray):Nat→List (Int × Int × ByteArray)
 | 0=>[]
 | k+1=>if s.size<32 then extsTo s k++ext s k else extsTo s k
def head4:List (Int × Int × ByteArray):=[(3,0,noText),(3,1,noText),(1,minI,noText),(1,maxI,noText)]
def TL (n:Int) (s:ByteArray) (n':Int) (s':ByteArray):Nat→List (Int × Int × ByteArray)
 | 0=>head4
 | i+1=>TL n s n' s' i++nums (tnum n n' i)++[(2,0,ttxt s s' i)]++extsTo (ttxt s s' i) 4
def T1 (n:Int) (s:ByteArray) (n':Int) (s':ByteArray) (j:Nat):List (Int × Int × ByteArray):=TL n s n' s' j++nums (tnum n n' j)
def T2 (n:Int) (s:ByteArray) (n':Int) (s':ByteArray) (j:Nat):List (Int × Int × ByteArray):=T1 n s n' s' j++[(2,0,ttxt s s' j)]
def T3 (n:Int) (s:ByteArray) (n':Int) (s':ByteArray) (j q:Nat):List (Int × Int × ByteArray):=T2 n s n' s' j++extsTo (ttxt s s' j) q
theorem T3_zero (n:Int) (s:ByteArray) (n':Int) (s':ByteArray) (j:Nat):T3 n s n' s' j 0=T2 n s n' s' j:=by simp [T3,extsTo]
theorem T3_four (n:Int) (s:ByteArray) (n':Int) (s':ByteArray) (j:Nat):T3 n s n' s' j 4=TL n s n' s' (j+1):=rfl
theorem T3_yes {n:Int} {s:ByteArray} {n':Int} {s':ByteArray} {j q:Nat} (h:(ttxt s s' j).size<32):T3 n s n' s' j (q+1)=T3 n s n' s' j q++ext (ttxt s s' j) q:=by
 simp [T3,extsTo,h]
theorem T3_no {n:Int} {s:ByteArray} {n':Int} {s':ByteArray} {j q:Nat} (h:¬ (ttxt s s' j).size<32):T3 n s n' s' j (q+1)=T3 n s n' s' j q:=by
 simp [T3,extsTo,h]
theorem piece_eq (n:Int) (s:ByteArray):nums n++[(2,0,s)]++extsTo s 4=piece n s:=by
 unfold piece
 by_cases h:s.size<32 <;> simp [nums,extsTo,ext,h,cT0,cT1,cT2,cT3]
theorem TL_eq (n:Int) (s:ByteArray) (n':Int) (s':ByteArray):TL n s n' s' 3=triedL n s n' s':=by
 have h0:TL n s n' s' 3=head4++(nums (tnum n n' 0)++[(2,0,ttxt s s' 0)]++extsTo (ttxt s s' 0) 4)++(nums (tnum n n' 1)++[(2,0,ttxt s s' 1)]++extsTo (ttxt s s' 1) 4)++(nums (tnum n n' 2)++[(2,0,ttxt s s' 2)]++extsTo (ttxt s s' 2) 4):=by
  simp only [TL,List.append_assoc]
 rw [h0,piece_eq,piece_eq,piece_eq]
 simp [tnum,ttxt,triedL,head4]
def vcell (v:Int × Int × ByteArray):List Value:=[.int .i64 v.1,.int .i64 v.2.1,.string v.2.2]
def vcells (l:List (Int × Int × ByteArray)):List Value:=l.flatMap vcell
theorem vcells_app (a b:List (Int × Int × ByteArray)):vcells (a++b)=vcells a++vcells b:=by simp [vcells]
theorem extsTo_len (s:ByteArray):∀ k,(extsTo s k).length≤2*k
 | 0=>by simp [extsTo]
 | k+1=>by
  have:=extsTo_len s k
  unfold extsTo;split
  ·simp [ext];omega
  ·omega
theorem TL_len (n:Int) (s:ByteArray) (n':Int) (s':ByteArray):∀ i,(TL n s n' s' i).length≤4+12*i
 | 0=>by simp [TL,head4]
 | i+1=>by
  have:=TL_len n s n' s' i
  have:=extsTo_len (ttxt s s' i) 4
  simp [TL,nums];omega
theorem T3_len (n:Int) (s:ByteArray) (n':Int) (s':ByteArray) (j q:Nat) (hj:j≤3) (hq:q≤4):(T1 n s n' s' j).length≤60∧(T3 n s n' s' j q).length≤60:=by
 have:=TL_len n s n' s' j
 have:=extsTo_len (ttxt s s' j) q
 simp only [T3,T2,T1,nums,List.length_append,List.length_cons,List.length_nil]
 omega
theorem grown_block {w w':World} {row:Option Nat} {k:Nat} {o:Obj} (hg:w.grownBy w' row) (h:w.heap[k]? = some o) (hr:row≠some k):w'.heap[k]? = some o:=by
 have hlt:k<w.heap.size:=by
  rcases Nat.lt_or_ge k w.heap.size with h' | h'
  ·exact h'
  ·rw [Array.getElem?_eq_none (by omega)] at h;cases h
 rw [hg.block k hlt (fun e=>hr e.symm)];exact h
theorem own_ne {w:World} {base:Nat} {e t:TypeId} {size:Nat} {v:Value} {n:Nat} {xs:List Value} {k:Nat} {cs:Array Value} {fr:Nat × Nat} (h:w.ownsRow base e size v n xs) (hk:w.heap[k]? = some (.cells cs t fr)) (hne:t≠e):v.ownBlock≠some k:=by
 rcases h.2 with ⟨hv,_⟩ | ⟨q,cap,cur,hv,hq,hh,_⟩
 ·rw [hv];simp [Value.ownBlock]
 ·rw [hv];simp only [Value.ownBlock]
  intro e'
  have:q=k:=by simpa using e'
  subst this
  rw [hh] at hk
  simp at hk
  exact hne hk.2.1.symm
theorem vals_at:∀ (l:List (Int × Int × ByteArray)) (i:Nat) (v:Int × Int × ByteArray),l[i]? = some v→(vcells l)[i*3]? = some (.int .i64 v.1)∧(vcells l)[i*3+1]? = some (.int .i64 v.2.1)∧(vcells l)[i*3+2]? = some (.string v.2.2)
 | [],i,v,h=>by simp at h
 | x::l,0,v,h=>by
  simp at h;subst h;simp [vcells,vcell]
 | x::l,i+1,v,h=>by
  have ih:=vals_at l i v (by simpa using h)
  have e:∀ j,(vcells (x::l))[(i+1)*3+j]? = (vcells l)[i*3+j]? := fun j=>by
   have:(i+1)*3+j=(i*3+j)+3:=by omega
   rw [this];simp [vcells,vcell,List.getElem?_cons_succ]
  have e0:=e 0
  simp only [Nat.add_zero] at e0
  rw [e0,e 1,e 2]
  exact ih
def spareW:Wnt:=⟨⟨#[115,112,97,114,101]⟩,0,0,0,⟨#[]⟩⟩
def outW (f:List Wnt):List Wnt:=f++List.replicate 8 spareW
theorem outW_len (f:List Wnt):(outW f).length=f.length+8:=by simp [outW]
theorem outW_in {f:List Wnt} {i:Nat} (h:i<f.length):wat (outW f) i=wat f i:=by
 simp [wat,outW,List.getD_eq_getElem?_getD,List.getElem?_append_left h]
theorem outW_past {f:List Wnt} {i:Nat} (h:¬ i<f.length) (h2:i<f.length+8):wat (outW f) i=spareW:=by
 simp only [wat,outW,List.getD_eq_getElem?_getD]
 rw [List.getElem?_append_right (by omega),List.getElem?_replicate,if_pos (by omega)];rfl
def set5 (xs:List Value) (k:Nat) (a b c d e:Value):List Value:=((((xs.set k a).set (k+1) b).set (k+1+1) c).set (k+1+1+1) d).set (k+1+1+1+1) e
theorem take_set (xs:List Value) (k:Nat) (v:Value) (h:k<xs.length):(xs.set k v).take (k+1)=xs.take k++[v]:=by
 rw [List.take_succ_eq_append_getElem (by simpa using h),List.take_set_of_le (Nat.le_refl k)]
 simp
theorem take5 (xs:List Value) (k:Nat) (a b c d e:Value) (h:k+5≤xs.length):(set5 xs k a b c d e).take (k+5)=xs.take k++[a,b,c,d,e]:=by
 unfold set5
 have h1:=take_set xs k a (by omega)
 have h2:=take_set (xs.set k a) (k+1) b (by simp;omega)
 have h3:=take_set ((xs.set k a).set (k+1) b) (k+1+1) c (by simp;omega)
 have h4:=take_set (((xs.set k a).set (k+1) b).set (k+1+1) c) (k+1+1+1) d (by simp;omega)
 have h5:=take_set ((((xs.set k a).set (k+1) b).set (k+1+1) c).set (k+1+1+1) d) (k+1+1+1+1) e (by simp;omega)
 rw [show k+5=k+1+1+1+1+1 by omega,h5,h4,h3,h2,h1]
 simp
theorem set5_len (xs:List Value) (k:Nat) (a b c d e:Value):(set5 xs k a b c d e).length=xs.length:=by simp [set5]
theorem wcells_take (l:List Wnt) (i:Nat) (h:i<l.length):wcells (l.take (i+1))=wcells (l.take i)++[.string (wat l i).a,.int .i64 (wat l i).y,.int .i64 (wat l i).k,.int .i64 (wat l i).n,.string (wat l i).s]:=by
 have e:wat l i=l[i]:=by simp [wat,List.getD_eq_getElem?_getD,List.getElem?_eq_getElem h]
 rw [List.take_succ_eq_append_getElem h,wcells_snoc,e]
theorem owns_set5 {w:World} {base:Nat} {e:TypeId} {g n cap:Nat} {xs:List Value} (h:w.ownsRow base e 5 (.slice (some ⟨g,0,none⟩) n cap) n xs) (k:Nat) (a b c d f:Value) :
  (((((w.setCell ⟨g,k,none⟩ a).setCell ⟨g,k+1,none⟩ b).setCell ⟨g,k+1+1,none⟩ c).setCell ⟨g,k+1+1+1,none⟩ d).setCell ⟨g,k+1+1+1+1,none⟩ f).ownsRow base e 5 (.slice (some ⟨g,0,none⟩) n cap) n (set5 xs k a b c d f) :=
 (World.ownsRow.stored (World.ownsRow.stored (World.ownsRow.stored (World.ownsRow.stored (World.ownsRow.stored h k a).1 (k+1) b).1 (k+1+1) c).1 (k+1+1+1) d).1 (k+1+1+1+1) f).1
theorem gr_set5 {w v:World} {g k:Nat} (hg:w.heap.size≤g) (h:Gr w v) (a b c d f:Value):Gr w (((((v.setCell ⟨g,k,none⟩ a).setCell ⟨g,k+1,none⟩ b).setCell ⟨g,k+1+1,none⟩ c).setCell ⟨g,k+1+1+1,none⟩ d).setCell ⟨g,k+1+1+1+1,none⟩ f) :=
 Below.setCell (Below.setCell (Below.setCell (Below.setCell (Below.setCell h hg _) hg _) hg _) hg _) hg _
structure FE where
 g:Nat
 f:List Wnt
 ad:Option Addr
 cap:Nat
def FE.fc (e:FE):Value:=.slice (some ⟨e.g,0,none⟩) (e.f.length+8) (e.f.length+8)
def FE.wc (e:FE):Value:=.slice e.ad e.f.length e.cap
set_option maxHeartbeats 400000 in
theorem goodName_any (s:ByteArray) (w:World) (hs:s.size≤maxLen) :
  Calls Tryz.prog 88 #[.string s] w fun e w'=>e = .returned (.bool (nameOk s))∧w'=w:=by
 unfold maxLen at hs
 go_enter Tryz.func88,Tryz.ntmps88
 go_wp2
 ·go_ret;exact ⟨ret_bool (name_short s ‹_›),rfl⟩
 ·go_loop [14] (fun i=>∃ k:Nat,k≤s.size∧i = .int .i64 k∧Hid ((s.data.toList.take k).all letter=true)) (fun i=>s.size - (intOf i).toNat)
  case atStart=>exact ⟨0,Nat.zero_le _,rfl,rfl⟩
  case round =>
   obtain ⟨k,hk,rfl,HA⟩:=hrel
   by_cases hlt:k<s.size
   ·go_wp2
    ·go_ret;exact ⟨ret_bool (name_stop s k hlt ‹_›),rfl⟩
    ·go_round
     case rel=>exact ⟨k+1,by omega,by go_num,letters_go s k hlt HA.out (by omega) (by omega)⟩
     case measure=>simp [intOf];omega
    ·go_ret;exact ⟨ret_bool (name_stop s k hlt (Or.inl ‹_›)),rfl⟩
   ·go_wp2
    go_ret
    refine ⟨ret_bool ?_,rfl⟩
    rw [name_end s k hlt HA.out];symm;simp;omega
 ·go_ret;exact ⟨ret_bool (name_short s (Or.inl ‹_›)),rfl⟩
set_option maxHeartbeats 400000 in
theorem name_any (s:ByteArray) (w:World) (hs:s.size≤maxLen) :
  Calls Tryz.prog 123 #[.string s] w fun e w'=>e = .returned (.bool (nameOk s))∧w'=w:=by
 unfold maxLen at hs
 go_enter Tryz.func123,Tryz.ntmps123
 go_wp2
 go_loop [3] (fun i=>∃ k:Nat,k≤s.size∧i = .int .i64 k∧Hid ((s.data.toList.take k).all letter=true)) (fun i=>s.size - (intOf i).toNat)
 case atStart=>exact ⟨0,Nat.zero_le _,rfl,rfl⟩
 case round =>
  obtain ⟨k,hk,rfl,HA⟩:=hrel
  by_cases hlt:k<s.size
  ·go_wp2
   ·go_ret;exact ⟨ret_bool (name_stop s k hlt ‹_›),rfl⟩
   ·go_round
    case rel=>exact ⟨k+1,by omega,by go_num,letters_go s k hlt HA.out (by omega) (by omega)⟩
    case measure=>simp [intOf];omega
   ·go_ret;exact ⟨ret_bool (name_stop s k hlt (Or.inl ‹_›)),rfl⟩
  ·go_wp2
   all_goals
    go_ret
    refine ⟨ret_bool ?_,rfl⟩
    rw [name_end s k hlt HA.out]
    go_light
    first | (simp [*];done) | (simp;omega)
set_option maxHeartbeats 400000 in
theorem goodValue_any (k n:Int) (s:ByteArray) (w:World) :
  Calls Tryz.prog 89 #[.agg #[.int .i64 k,.int .i64 n,.string s]] w fun e w'=>e = .returned (.bool (valOk k n s))∧Below w.heap.size w w':=by
 go_enter Tryz.func89,Tryz.ntmps89
 go_wp2
 all_goals
  go_ret
  refine ⟨ret_bool ?_,(Below.refl _ _).alloc (Nat.le_refl _) _⟩
  go_light
  simp_all [valOk]
set_option maxHeartbeats 400000 in
theorem value_any (k n:Int) (s:ByteArray) (w:World) :
  Calls Tryz.prog 124 #[.agg #[.int .i64 k,.int .i64 n,.string s]] w fun e w'=>e = .returned (.bool (valOk k n s))∧Below w.heap.size w w':=by
 go_enter Tryz.func124,Tryz.ntmps124
 go_wp2
 all_goals
  go_ret
  refine ⟨ret_bool ?_,(Below.refl _ _).alloc (Nat.le_refl _) _⟩
  go_light
  simp_all [valOk]
set_option maxHeartbeats 1000000 in
theorem above_any (n:Int) (w:World) :
  Calls Tryz.prog 29 #[.int .i64 n] w fun e w'=>e = .returned (.agg #[.string ⟨#[115,105,122,101]⟩,.int .i64 6,.int .i64 1,.int .i64 n,.string ⟨#[]⟩])∧Gr w w':=by
 go_enter Tryz.func29,Tryz.ntmps29
 go_wp2
 exact bodyPost_ret (v:=.agg #[.string ⟨#[115,105,122,101]⟩,.int .i64 6,.int .i64 1,.int .i64 n,.string ⟨#[]⟩]) (by simp [results,Tryz.results29,go_sem]) rfl ⟨rfl,(Gr.refl w).alloc _⟩
set_option maxHeartbeats 1000000 in
theorem lawVal_any (k n:Int) (s:ByteArray) (w:World) :
  Calls Tryz.prog 107 #[.agg #[.int .i64 k,.int .i64 n,.string s]] w fun e w'=>e = .returned (.agg #[.int .i64 k,.int .i64 n,.string s]) ∧
   w'=(w.alloc (.cells #[.int .i64 k,.int .i64 n,.string s] 94)).alloc (.cells #[.int .i64 k,.int .i64 n,.string s] 72):=by
 go_enter Tryz.func107,Tryz.ntmps107
 go_wp2
 exact bodyPost_ret (v:=.agg #[.int .i64 k,.int .i64 n,.string s]) (by simp [results,Tryz.results107,go_sem]) rfl ⟨rfl,rfl⟩
set_option maxHeartbeats 2000000 in
theorem lawWant_any (a:ByteArray) (y k n:Int) (s:ByteArray) (w:World) :
  Calls Tryz.prog 71 #[.agg #[.string a,.int .i64 y,.int .i64 k,.int .i64 n,.string s]] w fun e w'=>e = .returned (.agg #[.string a,.int .i64 y,.int .i64 k,.int .i64 n,.string s])∧Gr w w':=by
 go_enter Tryz.func71,Tryz.ntmps71
 go_wp2
 go_region_held3 (fun w'=>w'.cell? ⟨w.heap.size,0,none⟩=some (.string a)∧w'.cell? ⟨w.heap.size,1,none⟩=some (.int .i64 y)∧w'.cell? ⟨w.heap.size,2,none⟩=some (.int .i64 k)∧w'.cell? ⟨w.heap.size,3,none⟩=some (.int .i64 n)∧w'.cell? ⟨w.heap.size,4,none⟩=some (.string s))
  (simp [go_sem,World.cell?_alloc_past]) (first | (go_at_call 107;refine (lawVal_any _ _ _ _).mono ?_;rintro e w1 ⟨rfl,rfl⟩))
 all_goals
  go_wp2
  refine bodyPost_ret (v:=.agg #[.string a,.int .i64 y,.int .i64 k,.int .i64 n,.string s]) (by simp [results,Tryz.results71,go_sem]) rfl ⟨rfl,?_⟩
  repeat (first | exact Gr.refl _ | apply Gr.drew | apply Gr.alloc)
set_option maxHeartbeats 2000000 in
theorem lawAttr_any (a:ByteArray) (k n:Int) (s:ByteArray) (w:World) :
  Calls Tryz.prog 70 #[.agg #[.string a,.int .i64 k,.int .i64 n,.string s]] w fun e w'=>e = .returned (.agg #[.string a,.int .i64 k,.int .i64 n,.string s])∧Gr w w':=by
 go_enter Tryz.func70,Tryz.ntmps70
 go_wp2
 go_region_held3 (fun w'=>w'.cell? ⟨w.heap.size,0,none⟩=some (.string a)∧w'.cell? ⟨w.heap.size,1,none⟩=some (.int .i64 k)∧w'.cell? ⟨w.heap.size,2,none⟩=some (.int .i64 n)∧w'.cell? ⟨w.heap.size,3,none⟩=some (.string s))
  (simp [go_sem,World.cell?_alloc_past]) (first | (go_at_call 107;refine (lawVal_any _ _ _ _).mono ?_;rintro e w1 ⟨rfl,rfl⟩))
 all_goals
  go_wp2
  refine bodyPost_ret (v:=.agg #[.string a,.int .i64 k,.int .i64 n,.string s]) (by simp [results,Tryz.results70,go_sem]) rfl ⟨rfl,?_⟩
  repeat (first | exact Gr.refl _ | apply Gr.drew | apply Gr.alloc)
end Go.Proofs.YtecnfgikbmcgoaaGreat
