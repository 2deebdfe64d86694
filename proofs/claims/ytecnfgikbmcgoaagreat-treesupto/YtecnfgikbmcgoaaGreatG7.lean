import Derived.Test.YtecnfgikbmcgoaaGreatG6
import Derived.Test.YtecnfgikbmcgoaaGreatG1
import Derived.Deep.RegionWith
import Derived.LoopN
import Derived.Test.YtecnfgikbmcgoaaGreatG2
import Derived.Test.YtecnfgikbmcgoaaGreatG3
namespace Go.Proofs.YtecnfgikbmcgoaaGreat
open Go.RowKit
set_option maxHeartbeats 1000000 in
theorem letsNothingBy_any (a:ByteArray) (y k n:Int) (s:ByteArray) (w:World) :
  Calls Tryz.prog 156 #[.agg #[.string a,.int .i64 y,.int .i64 k,.int .i64 n,.string s]] w fun e w'=>e = .returned (.bool (nothingB y n))∧Below w.heap.size w w':=by
 go_enter Tryz.func156,Tryz.ntmps156
 go_wp2
 all_goals
  go_ret
  refine ⟨ret_bool ?_,(Below.refl _ _).alloc (Nat.le_refl _) _⟩
  go_light
  first | (simp_all [nothingB,minI,maxI];done) | go_show
set_option maxHeartbeats 1000000 in
theorem number_any (n:Int) (w:World) :
  Calls Tryz.prog 170 #[.int .i64 n] w fun e w'=>e = .returned (.agg #[.int .i64 1,.int .i64 n,.string noText])∧w'=w.alloc (.cells #[.int .i64 1,.int .i64 n,.string ⟨#[]⟩] 72):=by
 go_enter Tryz.func170,Tryz.ntmps170
 go_wp2
 exact bodyPost_ret (v:=.agg #[.int .i64 1,.int .i64 n,.string noText]) (by simp [results,Tryz.results170,go_sem,noText]) rfl ⟨rfl,rfl⟩
set_option maxHeartbeats 1000000 in
theorem ends_any (a:ByteArray) (y k n:Int) (s:ByteArray) (w:World) (h2:2≤y) (h7:y≤7) (hlo:minI≤n) (hhi:n≤maxI) (hn:nothingB y n=false) :
  Calls Tryz.prog 169 #[.agg #[.string a,.int .i64 y,.int .i64 k,.int .i64 n,.string s]] w fun e w'=>e = .returned (.tuple #[.int .i64 (endLo y n),.int .i64 (endHi y n)])∧Below w.heap.size w w':=by
 unfold minI at hlo
 unfold maxI at hhi
 have Hn:Hid (nothingB y n=false):=hn
 clear hn
 have hy:y=2∨y=3∨y=4∨y=5∨y=6∨y=7:=by omega
 rcases hy with rfl | rfl | rfl | rfl | rfl | rfl
 case' inr.inr.inl=>have hx : -9223372036854775808<n:=by (have h:=Hn.out;simp [nothingB,minI] at h;omega)
 case' inr.inr.inr.inr.inl=>have hx:n<9223372036854775807:=by (have h:=Hn.out;simp [nothingB,maxI] at h;omega)
 all_goals
  go_enter Tryz.func169,Tryz.ntmps169
  go_wp2
 all_goals
  go_ret2
  refine ⟨ret_ii ?_ ?_,(Below.refl _ _).alloc (Nat.le_refl _) _⟩
  all_goals
   go_light
   simp_all [endLo,endHi,minI,maxI]
theorem letsBy_eq (b:Bool) (a:ByteArray) (y k n:Int) (s:ByteArray) (k' n':Int) (s':ByteArray) (m:Int) (w:World) (hl:lets y k n s k' n' s'=b) (hw:wayOk y k n s=true) (hv:valOk k' n' s'=true) (hM:Ml m w) :
  Calls Tryz.prog 140 #[.agg #[.string a,.int .i64 y,.int .i64 k,.int .i64 n,.string s],.agg #[.int .i64 k',.int .i64 n',.string s']] w fun e w'=>e = .returned (.bool b)∧Below w.heap.size w w':=by
 subst hl
 exact letsBy_any a y k n s k' n' s' m w hw hv hM
set_option maxHeartbeats 2000000 in
theorem numbersWithin_any (a:ByteArray) (y n:Int) (s a':ByteArray) (y' n':Int) (s':ByteArray) (m:Int) (w:World) (h2:2≤y) (h7:y≤7) (hlo:minI≤n) (hhi:n≤maxI) (hn:nothingB y n=false)
  (hw':wayOk y' 1 n' s'=true) (hM:Ml m w) :
  Calls Tryz.prog 157 #[.agg #[.string a,.int .i64 y,.int .i64 1,.int .i64 n,.string s],.agg #[.string a',.int .i64 y',.int .i64 1,.int .i64 n',.string s']] w
   fun e w'=>e = .returned (.bool (numbersB y n y' n' s'))∧Below w.heap.size w w':=by
 have hv:∀ q,valOk 1 q noText=true:=fun q=>by simp [valOk,noText_list]
 have Hw':Hid (wayOk y' 1 n' s'=true):=hw'
 have Hv:Hid (∀ q,valOk 1 q noText=true):=hv
 clear hw' hv
 go_enter Tryz.func157,Tryz.ntmps157
 go_wp2_with fail
 refine (ends_any a y 1 n s _ h2 h7 hlo hhi hn).mono ?_
 rintro e w1 ⟨rfl,hb⟩
 obtain ⟨hc,hf⟩:=bcell hb
 have hz1:w.heap.size+1<w1.heap.size:=by have:=hb.size;simp at this;omega
 have hM1:Ml m w1:=((hM.alloc _).alloc _).below hb
 clear hn h2 h7 hlo hhi
 go_wp2_with fail
 cases hlet:lets y' 1 n' s' 1 (endLo y n) noText
 ·first | go_region_with (first | (go_at_call 170;refine (number_any _ _).mono ?_;rintro e w2 ⟨rfl,rfl⟩) | (go_at_call_of 140 (Value.agg #[.int .i64 1,.int .i64 (endLo y n),.string noText]);refine (letsBy_eq false _ _ _ _ _ _ _ _ m _ hlet Hw'.out (Hv.out _) (by repeat (first | assumption | apply Ml.drew | apply Ml.alloc))).mono ?_;rintro e w3 ⟨rfl,hb3⟩;have g3:Gr w1 w3:=Gr.call (by repeat (first | exact Gr.refl _ | assumption | apply Gr.drew | apply Gr.alloc)) hb3;clear hb3;obtain ⟨hc3,hf3⟩:=bcell g3;have hz3:=g3.lt hz1;have hM3:=g3.ml hM1)) | fail
  all_goals
   go_wp2
   go_ret
   exact ⟨ret_bool (by simp [numbersB,hlet]),Gr.call (((Gr.refl w).alloc _).alloc _) (Gr.call hb g3)⟩
 ·cases hlet2:lets y' 1 n' s' 1 (endHi y n) noText
  all_goals
   first | go_region_with (first | (go_at_call 170;refine (number_any _ _).mono ?_;rintro e w2 ⟨rfl,rfl⟩) | (go_at_call_of 140 (Value.agg #[.int .i64 1,.int .i64 (endLo y n),.string noText]);refine (letsBy_eq true _ _ _ _ _ _ _ _ m _ hlet Hw'.out (Hv.out _) (by repeat (first | assumption | apply Ml.drew | apply Ml.alloc))).mono ?_;rintro e w3 ⟨rfl,hb3⟩;have g3:Gr w1 w3:=Gr.call (by repeat (first | exact Gr.refl _ | assumption | apply Gr.drew | apply Gr.alloc)) hb3;clear hb3;obtain ⟨hc3,hf3⟩:=bcell g3;have hz3:=g3.lt hz1;have hM3:=g3.ml hM1) | (go_at_call_of 140 (Value.agg #[.int .i64 1,.int .i64 (endHi y n),.string noText]);refine (letsBy_eq _ _ _ _ _ _ _ _ _ m _ hlet2 Hw'.out (Hv.out _) (by repeat (first | assumption | apply Ml.drew | apply Ml.alloc))).mono ?_;rintro e w3 ⟨rfl,hb3⟩;have g3:Gr w1 w3:=Gr.call (by repeat (first | exact Gr.refl _ | assumption | apply Gr.drew | apply Gr.alloc)) hb3;clear hb3;obtain ⟨hc3,hf3⟩:=bcell g3;have hz3:=g3.lt hz1;have hM3:=g3.ml hM1)) | fail
   all_goals
    go_wp2
    go_ret
    exact ⟨ret_bool (by simp [numbersB,hlet,hlet2]),Gr.call (((Gr.refl w).alloc _).alloc _) (Gr.call hb (by assumption))⟩
set_option maxHeartbeats 2000000 in
theorem textsWithin_any (a:ByteArray) (y:Int) (s a':ByteArray) (y':Int) (s':ByteArray) (m:Int) (w:World) (hw:wayOk y 2 0 s=true) (hw':wayOk y' 2 0 s'=true) (hM:Ml m w) :
  Calls Tryz.prog 158 #[.agg #[.string a,.int .i64 y,.int .i64 2,.int .i64 0,.string s],.agg #[.string a',.int .i64 y',.int .i64 2,.int .i64 0,.string s']] w
   fun e w'=>e = .returned (.bool (textsB y s y' s'))∧Gr w w':=by
 have hv:valOk 2 0 s=true:=way_text hw
 have hs:=val_size hv
 have Hw:Hid (wayOk y 2 0 s=true):=hw
 have Hw':Hid (wayOk y' 2 0 s'=true):=hw'
 have Hv:Hid (valOk 2 0 s=true):=hv
 clear hw hw' hv
 go_enter Tryz.func158,Tryz.ntmps158
 go_wp2_with (go_at_call 140;refine (letsBy_any _ _ _ _ _ _ _ _ m _ Hw'.out Hv.out (by repeat (first | assumption | apply Ml.drew | apply Ml.alloc))).mono ?_;rintro e w3 ⟨rfl,hb3⟩;obtain ⟨hc3,hf3⟩:=bcell hb3;have hz3:w.heap.size+1<w3.heap.size:=Gr.lt hb3 (by simp))
 all_goals
  go_ret
  refine ⟨ret_bool ?_,?_⟩
  ·go_light
   try clear hc3 hf3 hb3
   try clear hM
   first | (simp_all [textsB];done) | go_show
  ·first | exact ((Gr.refl w).alloc _).alloc _ | exact Gr.call (((Gr.refl w).alloc _).alloc _) hb3
set_option maxHeartbeats 2000000 in
theorem flagsWithin_any (a:ByteArray) (y n:Int) (s a':ByteArray) (y' n':Int) (s':ByteArray) (m:Int) (w:World) (hw:wayOk y 3 n s=true) (hw':wayOk y' 3 n' s'=true) (hM:Ml m w) :
  Calls Tryz.prog 159 #[.agg #[.string a,.int .i64 y,.int .i64 3,.int .i64 n,.string s],.agg #[.string a',.int .i64 y',.int .i64 3,.int .i64 n',.string s']] w
   fun e w'=>e = .returned (.bool (flagsB y n s y' n' s'))∧Gr w w':=by
 have Hv:Hid (valOk 3 0 ⟨#[]⟩=true):=by show valOk 3 0 noText=true;simp [valOk,noText_list]
 have Hv1:Hid (valOk 3 1 ⟨#[]⟩=true):=by show valOk 3 1 noText=true;simp [valOk,noText_list]
 have Hw:Hid (wayOk y 3 n s=true):=hw
 have Hw':Hid (wayOk y' 3 n' s'=true):=hw'
 clear hw hw'
 go_enter Tryz.func159,Tryz.ntmps159
 go_wp2
 refine wp_loop_rounds 3 ?_
 rw [rounds_succ]
 go_wp2_with (go_at_call 140;refine (letsBy_any _ _ _ _ _ _ _ _ m _ (by first | exact Hw.out | exact Hw'.out) (by first | exact Hv.out | exact Hv1.out) (by repeat (first | assumption | apply Ml.drew | apply Ml.alloc))).mono ?_;rintro e w3 ⟨rfl,hb3⟩;have g3:Gr w w3:=Gr.call (by repeat (first | exact Gr.refl _ | assumption | apply Gr.drew | apply Gr.alloc)) hb3;obtain ⟨hc3,hf3⟩:=bcell hb3;have hq3:w.heap.size+3≤w3.heap.size:=(by (have:=hb3.size;(try simp at this);omega));obtain ⟨hz3,hz4,hz5⟩:=sizes3 hq3;have hM3:=g3.ml hM)
 all_goals (try rw [rounds_succ])
 all_goals go_wp2_with (go_at_call 140;refine (letsBy_any _ _ _ _ _ _ _ _ m _ (by first | exact Hw.out | exact Hw'.out) (by first | exact Hv.out | exact Hv1.out) (by repeat (first | assumption | apply Ml.drew | apply Ml.alloc))).mono ?_;rintro e w3 ⟨rfl,hb3⟩;have g3:Gr w w3:=Gr.call (by repeat (first | exact Gr.refl _ | assumption | apply Gr.drew | apply Gr.alloc)) hb3;obtain ⟨hc3,hf3⟩:=bcell hb3;have hq3:w.heap.size+3≤w3.heap.size:=(by (have:=hb3.size;(try simp at this);omega));obtain ⟨hz3,hz4,hz5⟩:=sizes3 hq3;have hM3:=g3.ml hM)
 all_goals (try rw [rounds_succ])
 all_goals go_wp2_with fail
 all_goals
  go_ret
  refine ⟨ret_bool ?_,by assumption⟩
  go_light
  first | (simp_all [flagsB,noText];done) | go_show
set_option maxHeartbeats 4000000 in
theorem within_any (a:ByteArray) (y k n:Int) (s a':ByteArray) (y' k' n':Int) (s':ByteArray) (m:Int) (w:World) (hw:wayOk y k n s=true) (hw':wayOk y' k' n' s'=true) (hlo:minI≤n) (hhi:n≤maxI) (hM:Ml m w) :
  Calls Tryz.prog 139 #[.agg #[.string a,.int .i64 y,.int .i64 k,.int .i64 n,.string s],.agg #[.string a',.int .i64 y',.int .i64 k',.int .i64 n',.string s']] w
   fun e w'=>e = .returned (.bool (withinB y k n s y' k' n' s'))∧Gr w w':=by
 have Hlo:Hid (minI≤n):=hlo
 have Hhi:Hid (n≤maxI):=hhi
 have Hw:Hid (wayOk y k n s=true):=hw
 have Hw':Hid (wayOk y' k' n' s'=true):=hw'
 clear hw hw' hlo hhi
 by_cases hy':(y'==1)=true
 ·go_enter Tryz.func139,Tryz.ntmps139
  go_wp2_with fail
  go_ret
  exact ⟨ret_bool (by simp only [withinB,hy',Bool.true_or,if_true]),((Gr.refl w).alloc _).alloc _⟩
 replace hy':(y'==1)=false:=by simpa using hy'
 by_cases hno:nothingB y n=true
 ·have Hno:Hid (nothingB y n=true):=hno
  clear hno
  go_enter Tryz.func139,Tryz.ntmps139
  go_wp2_with fail
  refine (letsNothingBy_any _ _ _ _ _ _).mono ?_
  rw [Hno.out]
  rintro e w1 ⟨rfl,hb1⟩
  go_wp2_with fail
  go_ret
  exact ⟨ret_bool (by simp only [withinB,Hno.out,Bool.or_true,if_true]),Gr.call (((Gr.refl w).alloc _).alloc _) hb1⟩
 have Hno:Hid (nothingB y n=false):=by
  show _=_
  simpa using hno
 clear hno
 have HW:Hid (withinB y k n s y' k' n' s'=if y==1||k != k' then false else if y'==3 then !lets y k n s k' n' s' else if k==1 then numbersB y n y' n' s' else if k==2 then textsB y s y' s' else flagsB y n s y' n' s'):=by
  show _=_
  simp only [withinB,hy',Hno.out,Bool.or_self,Bool.false_eq_true,if_false]
 by_cases hyk:y=1∨k≠k'
 ·have Hr:Hid (withinB y k n s y' k' n' s'=false):=by
   show _=_
   rw [HW.out];rcases hyk with h | h <;> simp [h]
  by_cases hy:(y==1)=true
  all_goals
   try replace hy:(y==1)=false:=by simpa using hy
  ·go_enter Tryz.func139,Tryz.ntmps139
   go_wp2_with fail
   refine (letsNothingBy_any _ _ _ _ _ _).mono ?_
   rw [Hno.out]
   rintro e w1 ⟨rfl,hb1⟩
   obtain ⟨hc1,hf1⟩:=bcell hb1
   go_wp2_with fail
   go_ret
   exact ⟨ret_bool (by rw [Hr.out]),Gr.call (((Gr.refl w).alloc _).alloc _) hb1⟩
  ·have hk:(k != k')=true:=by
    rcases hyk with h | h
    ·simp [h] at hy
    ·simpa using h
   clear hyk
   go_enter Tryz.func139,Tryz.ntmps139
   go_wp2_with fail
   refine (letsNothingBy_any _ _ _ _ _ _).mono ?_
   rw [Hno.out]
   rintro e w1 ⟨rfl,hb1⟩
   obtain ⟨hc1,hf1⟩:=bcell hb1
   go_wp2_with fail
   go_ret
   exact ⟨ret_bool (by rw [Hr.out]),Gr.call (((Gr.refl w).alloc _).alloc _) hb1⟩
 obtain ⟨hy1,hkk⟩:y≠1∧k=k':=by omega
 clear hyk
 subst hkk
 have hy:(y==1)=false:=by simpa using hy1
 have Hv:Hid (valOk k n s=true):=way_val Hw.out hy1
 have Hy:Hid (y≠1):=hy1
 have Hv':Hid (valOk k n' s'=true):=way_val Hw'.out (by simpa using hy')
 clear hy1
 by_cases hy3:(y'==3)=true
 ·have Hr:Hid (withinB y k n s y' k n' s' = !lets y k n s k n' s'):=by
   show _=_
   rw [HW.out];simp [hy,hy3]
  go_enter Tryz.func139,Tryz.ntmps139
  go_wp2_with fail
  refine (letsNothingBy_any _ _ _ _ _ _).mono ?_
  rw [Hno.out]
  rintro e w1 ⟨rfl,hb1⟩
  obtain ⟨hc1,hf1⟩:=bcell hb1
  have hM1:Ml m w1:=Gr.ml hb1 ((hM.alloc _).alloc _)
  have hz1:w.heap.size+1<w1.heap.size:=Gr.lt hb1 (by simp)
  go_wp2_with fail
  refine (letsBy_any _ _ _ _ _ _ _ _ m _ Hw.out Hv'.out hM1).mono ?_
  rintro e w2 ⟨rfl,hb2⟩
  go_wp2_with fail
  go_ret
  exact ⟨ret_bool (by rw [Hr.out]),Gr.call (Gr.call (((Gr.refl w).alloc _).alloc _) hb1) hb2⟩
 replace hy3:(y'==3)=false:=by simpa using hy3
 rcases val_kind Hv.out with rfl | rfl | rfl
 ·have Hr:Hid (withinB y 1 n s y' 1 n' s'=numbersB y n y' n' s'):=by
   show _=_
   rw [HW.out];simp [hy,hy3]
  go_enter Tryz.func139,Tryz.ntmps139
  go_wp2_with fail
  refine (letsNothingBy_any _ _ _ _ _ _).mono ?_
  rw [Hno.out]
  rintro e w1 ⟨rfl,hb1⟩
  obtain ⟨hc1,hf1⟩:=bcell hb1
  have hM1:Ml m w1:=Gr.ml hb1 ((hM.alloc _).alloc _)
  have hz1:w.heap.size+1<w1.heap.size:=Gr.lt hb1 (by simp)
  go_wp2_with fail
  refine (numbersWithin_any _ _ _ _ _ _ _ _ m _ (way_num Hw.out Hy.out).1 (way_num Hw.out Hy.out).2 Hlo.out Hhi.out Hno.out Hw'.out hM1).mono ?_
  rintro e w2 ⟨rfl,hb2⟩
  go_wp2_with fail
  go_ret
  exact ⟨ret_bool (by rw [Hr.out]),Gr.call (Gr.call (((Gr.refl w).alloc _).alloc _) hb1) hb2⟩
 ·obtain rfl:=val_text Hv.out
  obtain rfl:=val_text Hv'.out
  have Hr:Hid (withinB y 2 0 s y' 2 0 s'=textsB y s y' s'):=by
   show _=_
   rw [HW.out];simp [hy,hy3]
  go_enter Tryz.func139,Tryz.ntmps139
  go_wp2_with fail
  refine (letsNothingBy_any _ _ _ _ _ _).mono ?_
  rw [Hno.out]
  rintro e w1 ⟨rfl,hb1⟩
  obtain ⟨hc1,hf1⟩:=bcell hb1
  have hM1:Ml m w1:=Gr.ml hb1 ((hM.alloc _).alloc _)
  have hz1:w.heap.size+1<w1.heap.size:=Gr.lt hb1 (by simp)
  go_wp2_with fail
  refine (textsWithin_any _ _ _ _ _ _ m _ Hw.out Hw'.out hM1).mono ?_
  rintro e w2 ⟨rfl,hb2⟩
  go_wp2_with fail
  go_ret
  exact ⟨ret_bool (by rw [Hr.out]),Gr.call (Gr.call (((Gr.refl w).alloc _).alloc _) hb1) hb2⟩
 ·have Hr:Hid (withinB y 3 n s y' 3 n' s'=flagsB y n s y' n' s'):=by
   show _=_
   rw [HW.out];simp [hy,hy3]
  go_enter Tryz.func139,Tryz.ntmps139
  go_wp2_with fail
  refine (letsNothingBy_any _ _ _ _ _ _).mono ?_
  rw [Hno.out]
  rintro e w1 ⟨rfl,hb1⟩
  obtain ⟨hc1,hf1⟩:=bcell hb1
  have hM1:Ml m w1:=Gr.ml hb1 ((hM.alloc _).alloc _)
  have hz1:w.heap.size+1<w1.heap.size:=Gr.lt hb1 (by simp)
  go_wp2_with fail
  refine (flagsWithin_any _ _ _ _ _ _ _ _ m _ Hw.out Hw'.out hM1).mono ?_
  rintro e w2 ⟨rfl,hb2⟩
  go_wp2_with fail
  go_ret
  exact ⟨ret_bool (by rw [Hr.out]),Gr.call (Gr.call (((Gr.refl w).alloc _).alloc _) hb1) hb2⟩
set_option maxHeartbeats 1000000 in
theorem goodWant_any (a:ByteArray) (y k n:Int) (s:ByteArray) (w:World) (ha:a.size≤maxLen) :
  Calls Tryz.prog 84 #[.agg #[.string a,.int .i64 y,.int .i64 k,.int .i64 n,.string s]] w fun e w'=>e = .returned (.bool (wantOk a y k n s))∧Below w.heap.size w w':=by
 go_enter Tryz.func84,Tryz.ntmps84
 go_wp2_with (first | (go_at_call 88;refine (goodName_any _ _ ha).mono ?_;rintro e w' ⟨rfl,rfl⟩) | (go_at_call 89;refine (goodValue_any _ _ _ _).mono ?_;rintro e w1 ⟨rfl,hb⟩))
 all_goals
  go_ret
  refine ⟨ret_bool ?_,?_⟩
  ·go_light
   first | (simp_all [wantOk,wayOk];done) | (simp_all [wantOk,wayOk];omega)
  ·first | exact (Below.refl _ _).alloc (Nat.le_refl _) _ | exact ((Below.refl _ _).alloc (Nat.le_refl _) _).trans (hb.mono (by simp))
set_option maxHeartbeats 1000000 in
theorem WantOf_any (a:ByteArray) (y k n:Int) (s:ByteArray) (w:World) (ha:a.size≤maxLen) :
  Calls Tryz.prog 119 #[.agg #[.string a,.int .i64 y,.int .i64 k,.int .i64 n,.string s]] w fun e w'=>e = .returned (.bool (wantOk a y k n s))∧Below w.heap.size w w':=by
 go_enter Tryz.func119,Tryz.ntmps119
 go_wp2_with (first | (go_at_call 123;refine (name_any _ _ ha).mono ?_;rintro e w' ⟨rfl,rfl⟩) | (go_at_call 124;refine (value_any _ _ _ _).mono ?_;rintro e w1 ⟨rfl,hb⟩;obtain ⟨hc,hf⟩:=bcell hb))
 all_goals
  go_ret
  refine ⟨ret_bool ?_,?_⟩
  ·go_light
   try clear hc hf
   try clear hb
   unfold wantOk
   first | (rw [wayOk_out y k n s (by omega)];simp;done) | (rw [wayOk_hi y k n s (by omega) (by omega)];simp_all;done) | (rw [wayOk_mid y k n s (by omega) (by omega)];simp_all;done) | (simp_all [wayOk_any];done) | (have hne:¬ y=1:=(by simp_all);rw [wayOk_low y k n s (by omega) (by omega)];simp_all;done) | (simp_all;done)
  ·first | exact (Below.refl _ _).alloc (Nat.le_refl _) _ | exact ((Below.refl _ _).alloc (Nat.le_refl _) _).trans (hb.mono (by simp))
set_option maxHeartbeats 1000000 in
theorem Check_any (l:List Wnt) (b off cap:Nat) (w:World) (hl:l.length≤maxLen) (hb:b<w.heap.size) (hat:WantsAt w b off l) (hwf:∀ x∈l,Wnt.Wf x) :
  Calls Tryz.prog 46 #[.slice (some ⟨b,off,none⟩) l.length cap] w fun e w'=>e = .returned (.int .i64 (chk l))∧Gr w w':=by
 unfold maxLen at hl
 have HC:Hid (WantsAt w b off l):=hat
 have HF:Hid (∀ x∈l,Wnt.Wf x):=hwf
 clear hat hwf
 go_enter Tryz.func46,Tryz.ntmps46
 go_wp2
 ·go_ret;exact ⟨ret_int (chk_size ‹_›).symm,Gr.refl _⟩
 ·go_loopw [15] (fun i wr=>∃ k:Nat,k≤l.length∧i = .int .i64 k∧Gr w wr∧Hid ((l.take k).all wOk=true)) (fun i _=>l.length - (intOf i).toNat)
  case atStart=>exact ⟨0,Nat.zero_le _,rfl,Gr.refl _,rfl⟩
  case round =>
   obtain ⟨k,hk,rfl,g,HA⟩:=hrel
   by_cases hlt:k<l.length
   ·obtain ⟨c1,c2,c3,c4,c5⟩:=(HC.out.gr g hb) k hlt
    have hb':=g.lt hb
    go_wp2_with fail
    refine (goodWant_any _ _ _ _ _ _ (HF.out _ (wat_mem hlt)).a).mono ?_
    rintro e w1 ⟨rfl,hb1⟩
    have g1:Gr w w1:=Gr.call (g.alloc _) hb1
    clear c1 c2 c3 c4 c5
    go_wp2
    ·go_ret
     refine ⟨ret_int (chk_stop k hlt ?_).symm,g1⟩
     simpa [wOk] using ‹(!wantOk _ _ _ _ _)=true›
    ·go_roundw
     case rel =>
      refine ⟨k+1,by omega,by go_num,g1,all_snoc wOk l k dW hlt HA.out ?_⟩
      simpa [wOk,wat] using ‹(!wantOk _ _ _ _ _)=false›
     case measure=>simp [intOf];omega
   ·go_wp2
    go_ret
    exact ⟨ret_int (chk_end k hlt (by omega) (by omega) HA.out).symm,g⟩
 ·go_ret;exact ⟨ret_int (chk_size (Or.inl ‹_›)).symm,Gr.refl _⟩
def impW (x x':Wnt):Bool:=impB x.a x.y x.k x.n x.s x'.a x'.y x'.k x'.n x'.s
def cov (f g:List Wnt):Bool:=filterOk f&&filterOk g&&f.all fun x=>g.any fun v=>impW v x
set_option maxHeartbeats 2000000 in
theorem Implies_any (a:ByteArray) (y k n:Int) (s a':ByteArray) (y' k' n':Int) (s':ByteArray) (m:Int) (w:World) (ha:a.size≤maxLen) (ha':a'.size≤maxLen) (hlo:minI≤n) (hhi:n≤maxI) (hM:Ml m w) :
  Calls Tryz.prog 115 #[.agg #[.string a,.int .i64 y,.int .i64 k,.int .i64 n,.string s],.agg #[.string a',.int .i64 y',.int .i64 k',.int .i64 n',.string s']] w
   fun e w'=>e = .returned (.bool (impB a y k n s a' y' k' n' s'))∧Gr w w':=by
 have Hlo:Hid (minI≤n):=hlo
 have Hhi:Hid (n≤maxI):=hhi
 clear hlo hhi
 cases h1:wantOk a y k n s
 ·have Hr:Hid (impB a y k n s a' y' k' n' s'=false):=by
   show _=_
   simp [impB,h1]
  go_enter Tryz.func115,Tryz.ntmps115
  go_wp2_with fail
  refine (goodWant_any _ _ _ _ _ _ ha).mono ?_
  rw [h1]
  rintro e w1 ⟨rfl,hb1⟩
  go_wp2_with fail
  go_ret
  exact ⟨ret_bool (by rw [Hr.out]),Gr.call (((Gr.refl w).alloc _).alloc _) hb1⟩
 cases h2:wantOk a' y' k' n' s'
 ·have Hr:Hid (impB a y k n s a' y' k' n' s'=false):=by
   show _=_
   simp [impB,h2]
  go_enter Tryz.func115,Tryz.ntmps115
  go_wp2_with fail
  refine (goodWant_any _ _ _ _ _ _ ha).mono ?_
  rw [h1]
  rintro e w1 ⟨rfl,hb1⟩
  obtain ⟨hc1,hf1⟩:=bcell hb1
  go_wp2_with fail
  refine (goodWant_any _ _ _ _ _ _ ha').mono ?_
  rw [h2]
  rintro e w2 ⟨rfl,hb2⟩
  go_wp2_with fail
  go_ret
  exact ⟨ret_bool (by rw [Hr.out]),Gr.call (Gr.call (((Gr.refl w).alloc _).alloc _) hb1) hb2⟩
 have Hw:Hid (wayOk y k n s=true):=by
  show _=_
  simp [wantOk] at h1;exact h1.2
 have Hw':Hid (wayOk y' k' n' s'=true):=by
  show _=_
  simp [wantOk] at h2;exact h2.2
 cases h3:(a.toList==a'.toList)
 ·have Hr:Hid (impB a y k n s a' y' k' n' s'=false):=by
   show _=_
   simp [impB,h3]
  go_enter Tryz.func115,Tryz.ntmps115
  go_wp2_with fail
  refine (goodWant_any _ _ _ _ _ _ ha).mono ?_
  rw [h1]
  rintro e w1 ⟨rfl,hb1⟩
  obtain ⟨hc1,hf1⟩:=bcell hb1
  have hz1:w.heap.size<w1.heap.size:=Gr.lt hb1 (by simp;omega)
  have hz1':w.heap.size+1<w1.heap.size:=Gr.lt hb1 (by simp)
  go_wp2_with fail
  refine (goodWant_any _ _ _ _ _ _ ha').mono ?_
  rw [h2]
  rintro e w2 ⟨rfl,hb2⟩
  obtain ⟨hc2,hf2⟩:=bcell hb2
  go_wp2_with fail
  go_ret
  exact ⟨ret_bool (by rw [Hr.out]),Gr.call (Gr.call (((Gr.refl w).alloc _).alloc _) hb1) hb2⟩
 ·have Hr:Hid (impB a y k n s a' y' k' n' s'=withinB y k n s y' k' n' s'):=by
   show _=_
   simp [impB,h1,h2,h3]
  go_enter Tryz.func115,Tryz.ntmps115
  go_wp2_with fail
  refine (goodWant_any _ _ _ _ _ _ ha).mono ?_
  rw [h1]
  rintro e w1 ⟨rfl,hb1⟩
  obtain ⟨hc1,hf1⟩:=bcell hb1
  have hz1:w.heap.size<w1.heap.size:=Gr.lt hb1 (by simp;omega)
  have hz1':w.heap.size+1<w1.heap.size:=Gr.lt hb1 (by simp)
  go_wp2_with fail
  refine (goodWant_any _ _ _ _ _ _ ha').mono ?_
  rw [h2]
  rintro e w2 ⟨rfl,hb2⟩
  obtain ⟨hc2,hf2⟩:=bcell hb2
  go_wp2_with fail
  refine (within_any _ _ _ _ _ _ _ _ _ _ m _ Hw.out Hw'.out Hlo.out Hhi.out (Gr.ml hb2 (Gr.ml hb1 ((hM.alloc _).alloc _)))).mono ?_
  rintro e w3 ⟨rfl,hb3⟩
  go_wp2_with fail
  go_ret
  exact ⟨ret_bool (by rw [Hr.out]),Gr.call (Gr.call (Gr.call (((Gr.refl w).alloc _).alloc _) hb1) hb2) hb3⟩
theorem any_stop {α : Type} (p : α → Bool) (l:List α) (k:Nat) (d : α) (h:k<l.length) (hp:p (l.getD k d)=true):l.any p=true:=by
 rw [List.any_eq_true]
 exact ⟨_,getD_mem h d,hp⟩
theorem any_snoc {α : Type} (p : α → Bool) (l:List α) (k:Nat) (d : α) (h:k<l.length) (hk:(l.take k).any p=false) (hp:p (l.getD k d)=false):(l.take (k+1)).any p=false:=by
 rw [List.take_succ_eq_append_getElem h,List.any_append,hk]
 simp [List.getD_eq_getElem?_getD,List.getElem?_eq_getElem h] at hp
 simp [hp]
theorem any_end {α : Type} (p : α → Bool) (l:List α) (k:Nat) (h:¬ k<l.length) (hk:(l.take k).any p=false):l.any p=false:=by
 rwa [List.take_of_length_le (by omega)] at hk
set_option maxHeartbeats 1000000 in
theorem impliedByOne_any (x:Wnt) (l:List Wnt) (b off cap:Nat) (m:Int) (w:World) (hx:x.Wf) (hl:l.length≤maxLen) (hb:b<w.heap.size) (hat:WantsAt w b off l) (hwf:∀ x∈l,Wnt.Wf x) (hM:Ml m w) :
  Calls Tryz.prog 82 #[.agg #[.string x.a,.int .i64 x.y,.int .i64 x.k,.int .i64 x.n,.string x.s],.slice (some ⟨b,off,none⟩) l.length cap] w
   fun e w'=>e = .returned (.bool (l.any fun v=>impW v x))∧Gr w w':=by
 unfold maxLen at hl
 have HC:Hid (WantsAt w b off l):=hat
 have HF:Hid (∀ x∈l,Wnt.Wf x):=hwf
 have HX:Hid x.Wf:=hx
 clear hat hwf hx
 go_enter Tryz.func82,Tryz.ntmps82
 go_wp2
 go_loopw [9] (fun i wr=>∃ k:Nat,k≤l.length∧i = .int .i64 k∧Gr (w.alloc (.cells #[.string x.a,.int .i64 x.y,.int .i64 x.k,.int .i64 x.n,.string x.s] 76)) wr∧Hid ((l.take k).any (fun v=>impW v x)=false)) (fun i _=>l.length - (intOf i).toNat)
 case atStart=>exact ⟨0,Nat.zero_le _,rfl,Gr.refl _,rfl⟩
 case round =>
  obtain ⟨k,hk,rfl,g,HA⟩:=hrel
  have gw:Gr w wr:=Gr.call ((Gr.refl w).alloc _) g
  by_cases hlt:k<l.length
  ·obtain ⟨c1,c2,c3,c4,c5⟩:=(HC.out.gr gw hb) k hlt
   have hb':=gw.lt hb
   have hzr:w.heap.size<wr.heap.size:=g.lt (by simp)
   have x1:wr.cell? ⟨w.heap.size,0,none⟩=some (.string x.a):=by rw [(bcell g).1 _ _ (by simp)];simp [go_sem]
   have x2:wr.cell? ⟨w.heap.size,1,none⟩=some (.int .i64 x.y):=by rw [(bcell g).1 _ _ (by simp)];simp [go_sem]
   have x3:wr.cell? ⟨w.heap.size,1+1,none⟩=some (.int .i64 x.k):=by rw [(bcell g).1 _ _ (by simp)];simp [go_sem]
   have x4:wr.cell? ⟨w.heap.size,1+1+1,none⟩=some (.int .i64 x.n):=by rw [(bcell g).1 _ _ (by simp)];simp [go_sem]
   have x5:wr.cell? ⟨w.heap.size,1+1+1+1,none⟩=some (.string x.s):=by rw [(bcell g).1 _ _ (by simp)];simp [go_sem]
   go_wp2_with fail
   refine (Implies_any _ _ _ _ _ _ _ _ _ _ m _ (HF.out _ (wat_mem hlt)).a HX.out.a (HF.out _ (wat_mem hlt)).n1 (HF.out _ (wat_mem hlt)).n2 ((gw.ml hM).alloc _)).mono ?_
   rintro e w1 ⟨rfl,hb1⟩
   have g1:Gr (w.alloc (.cells #[.string x.a,.int .i64 x.y,.int .i64 x.k,.int .i64 x.n,.string x.s] 76)) w1:=Gr.call (g.alloc _) hb1
   clear c1 c2 c3 c4 c5 x1 x2 x3 x4 x5
   go_wp2
   ·go_ret
    refine ⟨ret_bool (any_stop _ l k dW hlt ?_).symm,Gr.call (gw.alloc _) hb1⟩
    exact ‹impB _ _ _ _ _ _ _ _ _ _=true›
   ·go_roundw
    case rel =>
     refine ⟨k+1,by omega,by go_num,g1,any_snoc _ l k dW hlt HA.out ?_⟩
     exact ‹impB _ _ _ _ _ _ _ _ _ _=false›
    case measure=>simp [intOf];omega
  ·go_wp2
   go_ret
   exact ⟨ret_bool (any_end _ l k hlt HA.out).symm,gw⟩
set_option maxHeartbeats 1000000 in
theorem Covers_any (f g:List Wnt) (b off cap b' off' cap':Nat) (m:Int) (w:World) (hl:f.length≤maxLen) (hb:b<w.heap.size) (hat:WantsAt w b off f) (hwf:∀ x∈f,Wnt.Wf x)
  (hl':g.length≤maxLen) (hb':b'<w.heap.size) (hat':WantsAt w b' off' g) (hwf':∀ x∈g,Wnt.Wf x) (hM:Ml m w) :
  Calls Tryz.prog 44 #[.slice (some ⟨b,off,none⟩) f.length cap,.slice (some ⟨b',off',none⟩) g.length cap'] w
   fun e w'=>e = .returned (.bool (cov f g))∧Gr w w':=by
 have HC:Hid (WantsAt w b off f):=hat
 have HF:Hid (∀ x∈f,Wnt.Wf x):=hwf
 have HC':Hid (WantsAt w b' off' g):=hat'
 have HF':Hid (∀ x∈g,Wnt.Wf x):=hwf'
 have HL:Hid (f.length≤maxLen):=hl
 have HL':Hid (g.length≤maxLen):=hl'
 unfold maxLen at hl hl'
 clear hat hwf hat' hwf'
 cases h1:filterOk f
 ·have Hc:Hid (chk f=2):=by
   show _=_
   simp [chk,h1]
  have Hr:Hid (cov f g=false):=by
   show _=_
   simp [cov,h1]
  go_enter Tryz.func44,Tryz.ntmps44
  go_wp2_with fail
  refine (Check_any _ _ _ _ _ HL.out hb HC.out HF.out).mono ?_
  rw [Hc.out]
  rintro e w1 ⟨rfl,hb1⟩
  go_wp2_with fail
  go_ret
  exact ⟨ret_bool (by rw [Hr.out]),hb1⟩
 have Hc:Hid (chk f=0):=by
  show _=_
  simp [chk,h1]
 cases h2:filterOk g
 ·have Hc':Hid (chk g=2):=by
   show _=_
   simp [chk,h2]
  have Hr:Hid (cov f g=false):=by
   show _=_
   simp [cov,h2]
  go_enter Tryz.func44,Tryz.ntmps44
  go_wp2_with fail
  refine (Check_any _ _ _ _ _ HL.out hb HC.out HF.out).mono ?_
  rw [Hc.out]
  rintro e w1 ⟨rfl,hb1⟩
  go_wp2_with fail
  refine (Check_any _ _ _ _ _ HL'.out (Gr.lt hb1 hb') (HC'.out.gr hb1 hb') HF'.out).mono ?_
  rw [Hc'.out]
  rintro e w2 ⟨rfl,hb2⟩
  go_wp2_with fail
  go_ret
  exact ⟨ret_bool (by rw [Hr.out]),Gr.call hb1 hb2⟩
 have Hc':Hid (chk g=0):=by
  show _=_
  simp [chk,h2]
 have Hr:Hid (cov f g=f.all fun x=>g.any fun v=>impW v x):=by
  show _=_
  simp [cov,h1,h2]
 go_enter Tryz.func44,Tryz.ntmps44
 go_wp2_with fail
 refine (Check_any _ _ _ _ _ HL.out hb HC.out HF.out).mono ?_
 rw [Hc.out]
 rintro e w1 ⟨rfl,hb1⟩
 go_wp2_with fail
 refine (Check_any _ _ _ _ _ HL'.out (Gr.lt hb1 hb') (HC'.out.gr hb1 hb') HF'.out).mono ?_
 rw [Hc'.out]
 rintro e w2 ⟨rfl,hb2⟩
 have g2:Gr w w2:=Gr.call hb1 hb2
 clear hb1 hb2
 go_wp2_with fail
 go_loopw [17] (fun i wr=>∃ k:Nat,k≤f.length∧i = .int .i64 k∧Gr w wr∧Hid ((f.take k).all (fun x=>g.any fun v=>impW v x)=true)) (fun i _=>f.length - (intOf i).toNat)
 case atStart=>exact ⟨0,Nat.zero_le _,rfl,g2,rfl⟩
 case round =>
  obtain ⟨k,hk,rfl,gr,HA⟩:=hrel
  by_cases hlt:k<f.length
  ·obtain ⟨c1,c2,c3,c4,c5⟩:=(HC.out.gr gr hb) k hlt
   have hbr:=gr.lt hb
   go_wp2_with fail
   refine (impliedByOne_any (wat f k) g _ _ _ m _ (HF.out _ (wat_mem hlt)) HL'.out (Gr.lt (gr.alloc _) hb') (HC'.out.gr (gr.alloc _) hb') HF'.out ((gr.ml hM).alloc _)).mono ?_
   rintro e w3 ⟨rfl,hb3⟩
   have g3:Gr w w3:=Gr.call (gr.alloc _) hb3
   clear c1 c2 c3 c4 c5
   go_wp2
   ·go_ret
    refine ⟨ret_bool ?_,g3⟩
    rw [Hr.out,all_stop _ f k dW hlt (by simpa [wat] using ‹(!(g.any _))=true›)]
   ·go_roundw
    case rel =>
     refine ⟨k+1,by omega,by go_num,g3,all_snoc _ f k dW hlt HA.out ?_⟩
     simpa [wat] using ‹(!(g.any _))=false›
    case measure=>simp [intOf];omega
  ·go_wp2
   go_ret
   refine ⟨ret_bool ?_,gr⟩
   rw [Hr.out,all_end _ f k hlt HA.out]
abbrev Hw:=Hd (List Wnt)
def hv (h:Hw) (ad:Option Addr) (c:Nat):Array Value:=#[.int .i64 h.key.1,.int .i64 h.key.2,.slice ad h.f.length c,.int .i64 h.fr]
structure FiM (w:World) (ad:Option Addr) (l:List Wnt):Prop where
 at':∃ b off,ad=some ⟨b,off,none⟩∧b<w.heap.size∧WantsAt w b off l
 wf:∀ x∈l,Wnt.Wf x
 ok:filterOk l=true
theorem FiM.gr {w w':World} {ad:Option Addr} {l:List Wnt} (h:FiM w ad l) (g:Gr w w'):FiM w' ad l:=by
 obtain ⟨b,off,h1,h2,h3⟩:=h.at'
 exact ⟨⟨b,off,h1,g.lt h2,h3.gr g h2⟩,h.wf,h.ok⟩
theorem FiM.len {w:World} {ad:Option Addr} {l:List Wnt} (h:FiM w ad l):l.length≤6:=by
 have:=h.ok
 simp only [filterOk,Bool.and_eq_true,decide_eq_true_eq] at this
 omega
theorem CoversM (f g:List Wnt) (a a':Option Addr) (c c':Nat) (m:Int) (w:World) (h:FiM w a f) (h':FiM w a' g) (hM:Ml m w) :
  Calls Tryz.prog 44 #[.slice a f.length c,.slice a' g.length c'] w fun e w'=>e = .returned (.bool (cov f g))∧Gr w w':=by
 obtain ⟨b,off,rfl,h2,h3⟩:=h.at'
 obtain ⟨b',off',rfl,h2',h3'⟩:=h'.at'
 exact Covers_any f g b off c b' off' c' m w (by have:=h.len;unfold maxLen;omega) h2 h3 h.wf (by have:=h'.len;unfold maxLen;omega) h2' h3' h'.wf hM
set_option maxRecDepth 100000 in
set_option maxHeartbeats 4000000 in
theorem hides_any (g h:Hw) (a a':Option Addr) (c c':Nat) (m:Int) (w:World) (hg:FiM w a g.f) (hh:FiM w a' h.f) (hM:Ml m w) :
  Calls Tryz.prog 112 #[.agg (hv g a c),.agg (hv h a' c')] w fun e w'=>e = .returned (.bool (hides cov g h))∧Gr w w':=by
 have HG:=Hid.mk' hg
 have HH:=Hid.mk' hh
 have HM:=Hid.mk' hM
 clear hg hh hM
 unfold hv
 have EH:Hid (hides cov g h=(cov g.f h.f&&(!(cov h.f g.f)||klt g.key h.key))):=rfl
 generalize hides cov g h=r at *
 go_enter Tryz.func112,Tryz.ntmps112
 go_wp2_with fail
 have ga:Gr w ((w.alloc (.cells #[.int .i64 g.key.1,.int .i64 g.key.2,.slice a g.f.length c,.int .i64 g.fr] 121)).alloc (.cells #[.int .i64 h.key.1,.int .i64 h.key.2,.slice a' h.f.length c',.int .i64 h.fr] 121)):=((Gr.refl w).alloc _).alloc _
 have P0:=heap_alloc_new w (.cells #[.int .i64 g.key.1,.int .i64 g.key.2,.slice a g.f.length c,.int .i64 g.fr] 121)
 have hsz:(w.alloc (.cells #[.int .i64 g.key.1,.int .i64 g.key.2,.slice a g.f.length c,.int .i64 g.fr] 121)).heap.size=w.heap.size+1:=by simp
 have Q0:=heap_alloc_new (w.alloc (.cells #[.int .i64 g.key.1,.int .i64 g.key.2,.slice a g.f.length c,.int .i64 g.fr] 121)) (.cells #[.int .i64 h.key.1,.int .i64 h.key.2,.slice a' h.f.length c',.int .i64 h.fr] 121)
 rw [hsz] at Q0
 have P0':=blk_gr ((Gr.refl (w.alloc (.cells #[.int .i64 g.key.1,.int .i64 g.key.2,.slice a g.f.length c,.int .i64 g.fr] 121))).alloc (.cells #[.int .i64 h.key.1,.int .i64 h.key.2,.slice a' h.f.length c',.int .i64 h.fr] 121)) P0
 refine (CoversM g.f h.f a a' c c' m _ (HG.out.gr ga) (HH.out.gr ga) (ga.ml HM.out)).mono ?_
 rintro e w1 ⟨rfl,g1⟩
 have G1:=Hid.mk' (Gr.call ga g1)
 have P1:=Hid.mk' (blk_gr g1 P0')
 have Q1:=Hid.mk' (blk_gr g1 Q0)
 clear ga g1 P0 Q0 P0' hsz
 have p0:w1.cell? ⟨w.heap.size,0,none⟩=some (.int .i64 g.key.1):=by rw [cell_of_row _ _ _ _ _ _ P1.out];rfl
 have p1:w1.cell? ⟨w.heap.size,1,none⟩=some (.int .i64 g.key.2):=by rw [cell_of_row _ _ _ _ _ _ P1.out];rfl
 have p2:w1.cell? ⟨w.heap.size,2,none⟩=some (.slice a g.f.length c):=by rw [cell_of_row _ _ _ _ _ _ P1.out];rfl
 have p3:w1.cell? ⟨w.heap.size,3,none⟩=some (.int .i64 g.fr):=by rw [cell_of_row _ _ _ _ _ _ P1.out];rfl
 have q0:w1.cell? ⟨w.heap.size+1,0,none⟩=some (.int .i64 h.key.1):=by rw [cell_of_row _ _ _ _ _ _ Q1.out];rfl
 have q1:w1.cell? ⟨w.heap.size+1,1,none⟩=some (.int .i64 h.key.2):=by rw [cell_of_row _ _ _ _ _ _ Q1.out];rfl
 have q2:w1.cell? ⟨w.heap.size+1,2,none⟩=some (.slice a' h.f.length c'):=by rw [cell_of_row _ _ _ _ _ _ Q1.out];rfl
 have q3:w1.cell? ⟨w.heap.size+1,3,none⟩=some (.int .i64 h.fr):=by rw [cell_of_row _ _ _ _ _ _ Q1.out];rfl
 cases c1:cov g.f h.f with
 | false =>
  have er:=EH.out
  rw [c1,Bool.false_and] at er
  subst er
  go_wp2_with fail
  go_ret
  exact ⟨rfl,G1.out⟩
 | true =>
  have er:=Hid.mk' EH.out
  go_wp2_with fail
  refine (CoversM h.f g.f a' a c' c m w1 (HH.out.gr G1.out) (HG.out.gr G1.out) (G1.out.ml HM.out)).mono ?_
  rintro e w2 ⟨rfl,g2⟩
  have G2:=Hid.mk' (Gr.call G1.out g2)
  have P2:=Hid.mk' (blk_gr g2 P1.out)
  have Q2:=Hid.mk' (blk_gr g2 Q1.out)
  clear p0 p1 p2 p3 q0 q1 q2 q3 g2 P1 Q1 G1
  have p0:w2.cell? ⟨w.heap.size,0,none⟩=some (.int .i64 g.key.1):=by rw [cell_of_row _ _ _ _ _ _ P2.out];rfl
  have p1:w2.cell? ⟨w.heap.size,1,none⟩=some (.int .i64 g.key.2):=by rw [cell_of_row _ _ _ _ _ _ P2.out];rfl
  have p2:w2.cell? ⟨w.heap.size,2,none⟩=some (.slice a g.f.length c):=by rw [cell_of_row _ _ _ _ _ _ P2.out];rfl
  have p3:w2.cell? ⟨w.heap.size,3,none⟩=some (.int .i64 g.fr):=by rw [cell_of_row _ _ _ _ _ _ P2.out];rfl
  have q0:w2.cell? ⟨w.heap.size+1,0,none⟩=some (.int .i64 h.key.1):=by rw [cell_of_row _ _ _ _ _ _ Q2.out];rfl
  have q1:w2.cell? ⟨w.heap.size+1,1,none⟩=some (.int .i64 h.key.2):=by rw [cell_of_row _ _ _ _ _ _ Q2.out];rfl
  have q2:w2.cell? ⟨w.heap.size+1,2,none⟩=some (.slice a' h.f.length c'):=by rw [cell_of_row _ _ _ _ _ _ Q2.out];rfl
  have q3:w2.cell? ⟨w.heap.size+1,3,none⟩=some (.int .i64 h.fr):=by rw [cell_of_row _ _ _ _ _ _ Q2.out];rfl
  cases c2:cov h.f g.f with
  | false =>
   have hr:r=true:=by rw [er.out,c1,c2];rfl
   subst hr
   go_wp2_with fail
   go_ret
   exact ⟨rfl,G2.out⟩
  | true =>
   have hr:r=klt g.key h.key:=by rw [er.out,c1,c2];simp
   subst hr
   go_wp2_with fail
   refine (compareKeys_any g.key h.key w2).mono ?_
   rintro e w3 ⟨rfl,g3⟩
   have G3:=Hid.mk' (Gr.call G2.out g3)
   have hlt:=cK_lt g.key h.key
   go_wp2_with fail
   go_ret
   exact ⟨rfl,G3.out⟩
end Go.Proofs.YtecnfgikbmcgoaaGreat
