import Derived.Test.YtecnfgikbmcgoaaGreatG2
import Derived.WalkKit
import Derived.WalkSpells
import Derived.WalkLawsBesides
import Derived.Test.YtecnfgikbmcgoaaGreatRows
import Derived.Test.YtecnfgikbmcgoaaGreatG17
import Derived.Test.YtecnfgikbmcgoaaGreatG7
import Derived.Test.YtecnfgikbmcgoaaGreatG14
import Derived.Deep.RegionWith
import Derived.Test.YtecnfgikbmcgoaaGreatG15
import Derived.Deep.RegionHeld3
namespace Go.Proofs.YtecnfgikbmcgoaaGreat
open Go.RowKit
theorem Tryz.infoValue:(Tryz.prog.info? 94).map (fun i=>(i.zero,i.size,i.bytes))=some (some (.agg #[.int .i64 0,.int .i64 0,.string ⟨#[]⟩]),3,32):=by kernel_rfl
set_option maxRecDepth 100000 in
set_option maxHeartbeats 4000000 in
theorem tried_any (a:ByteArray) (y k n:Int) (s a':ByteArray) (y' k' n':Int) (s':ByteArray) (w:World) (hs:s.size≤32) (hs':s'.size≤32) :
  Calls Tryz.prog 174 #[.agg #[.string a,.int .i64 y,.int .i64 k,.int .i64 n,.string s],.agg #[.string a',.int .i64 y',.int .i64 k',.int .i64 n',.string s']] w
   fun e w'=>∃ v,e = .returned v∧Gr w w'∧w'.ownsRow w.heap.size 94 3 v (triedL n s n' s').length (vcells (triedL n s n' s')):=by
 obtain ⟨i0,hi,hz0,hz1,hz2⟩:=info_parts Tryz.infoValue
 go_enter Tryz.func174,Tryz.ntmps174
 go_wp2
 go_loopw [5,8] (fun v i wr=>∃ j:Nat,j≤3∧i = .int .i64 j∧Gr w wr∧Hid (wr.heap[w.heap.size+1+1+1]? = some (.cells #[.int .i64 n,.int .i64 n',.int .i64 0] 3 (0,0)))∧Hid (wr.heap[w.heap.size+1+1+1+1]? = some (.cells #[.string ⟨#[]⟩,.string s,.string s'] 9 (0,0)))∧Hid (wr.ownsRow w.heap.size 94 3 v (TL n s n' s' j).length (vcells (TL n s n' s' j)))) (fun _ i _=>3 - (intOf i).toNat)
 case atStart =>
  refine ⟨0,by omega,rfl,by repeat (first | exact Gr.refl _ | apply Gr.alloc),?_,?_,?_⟩
  ·show _=_
   rw [heap_alloc_old _ _ (by simp)]
   have:=heap_alloc_new (((w.alloc (.cells #[.string a,.int .i64 y,.int .i64 k,.int .i64 n,.string s] 96)).alloc (.cells #[.string a',.int .i64 y',.int .i64 k',.int .i64 n',.string s'] 96)).alloc (.cells #[.int .i64 3,.int .i64 0,.string ⟨#[]⟩,.int .i64 3,.int .i64 1,.string ⟨#[]⟩,.int .i64 1,.int .i64 (-9223372036854775808),.string ⟨#[]⟩,.int .i64 1,.int .i64 9223372036854775807,.string ⟨#[]⟩] 94)) (.cells #[.int .i64 n,.int .i64 n',.int .i64 0] 3)
   simpa using this
  ·show _=_
   have:=heap_alloc_new ((((w.alloc (.cells #[.string a,.int .i64 y,.int .i64 k,.int .i64 n,.string s] 96)).alloc (.cells #[.string a',.int .i64 y',.int .i64 k',.int .i64 n',.string s'] 96)).alloc (.cells #[.int .i64 3,.int .i64 0,.string ⟨#[]⟩,.int .i64 3,.int .i64 1,.string ⟨#[]⟩,.int .i64 1,.int .i64 (-9223372036854775808),.string ⟨#[]⟩,.int .i64 1,.int .i64 9223372036854775807,.string ⟨#[]⟩] 94)).alloc (.cells #[.int .i64 n,.int .i64 n',.int .i64 0] 3)) (.cells #[.string ⟨#[]⟩,.string s,.string s'] 9)
   simpa using this
  ·have:=World.ownsRow_lit (base:=w.heap.size) (e:=94) (size:=3) ((w.alloc (.cells #[.string a,.int .i64 y,.int .i64 k,.int .i64 n,.string s] 96)).alloc (.cells #[.string a',.int .i64 y',.int .i64 k',.int .i64 n',.string s'] 96)) #[.int .i64 3,.int .i64 0,.string ⟨#[]⟩,.int .i64 3,.int .i64 1,.string ⟨#[]⟩,.int .i64 1,.int .i64 (-9223372036854775808),.string ⟨#[]⟩,.int .i64 1,.int .i64 9223372036854775807,.string ⟨#[]⟩] 4 (by simp;omega) (by unfold maxLen;omega) rfl
   have h2:=(this.alloc (.cells #[.int .i64 n,.int .i64 n',.int .i64 0] 3)).alloc (.cells #[.string ⟨#[]⟩,.string s,.string s'] 9)
   rw [show ((w.alloc (.cells #[.string a,.int .i64 y,.int .i64 k,.int .i64 n,.string s] 96)).alloc (.cells #[.string a',.int .i64 y',.int .i64 k',.int .i64 n',.string s'] 96)).heap.size=w.heap.size+1+1 by simp] at h2
   exact h2
 case round =>
  obtain ⟨j,hj,rfl,g,NB,TB,O⟩:=hrel
  have hTL:=TL_len n s n' s' j
  by_cases hlt:j<3
  ·have cn:wr.cell? ⟨w.heap.size+1+1+1,j,none⟩=some (.int .i64 (tnum n n' j)):=by
    rw [cell_of_row _ _ _ _ _ _ NB.out]
    have:j=0∨j=1∨j=2:=by omega
    rcases this with rfl | rfl | rfl <;> simp [tnum]
   go_wp2_with (at_builtin;refine wpList_append_own _ rfl _ _ 275 rfl w.heap.size 94 i0 _ 3 32 Tryz.underlying275 hi hz0 hz1 hz2 rfl (by decide) _ _ _ rfl (O.out.alloc _) ⟨wr.heap.size,0,none⟩ 3 3 [.int .i64 1,.int .i64 (tnum n n' j),.string ⟨#[]⟩,.int .i64 1,.int .i64 (wrap64 (tnum n n' j+1)),.string ⟨#[]⟩,.int .i64 1,.int .i64 (wrap64 (tnum n n' j - 1)),.string ⟨#[]⟩] rfl rfl (World.news_of_block (heap_alloc_new _ _)) ?c2A ?c3A ?c4A ?c5A ?_)
   case c2A=>intro u hu;simp at hu;rcases hu with rfl | rfl | rfl | rfl | rfl | rfl | rfl | rfl | rfl <;> rfl
   case c3A=>unfold maxLen;omega
   case c4A=>omega
   case c5A=>have:=g.size;simp;omega
   intro va wa hownA hgrowA _
   have gA:Gr w wa:=owns_grown rfl O.out g hgrowA
   have NBA:Hid (wa.heap[w.heap.size+1+1+1]? = some (.cells #[.int .i64 n,.int .i64 n',.int .i64 0] 3 (0,0))):=grown_block hgrowA (by rw [heap_alloc_old _ _ (blk_lt NB.out)];exact NB.out) (own_ne O.out NB.out (by decide))
   have TBA:Hid (wa.heap[w.heap.size+1+1+1+1]? = some (.cells #[.string ⟨#[]⟩,.string s,.string s'] 9 (0,0))):=grown_block hgrowA (by rw [heap_alloc_old _ _ (blk_lt TB.out)];exact TB.out) (own_ne O.out TB.out (by decide))
   have OA:Hid (wa.ownsRow w.heap.size 94 3 va (T1 n s n' s' j).length (vcells (T1 n s n' s' j))):=by
    show World.ownsRow _ _ _ _ _ _ _
    rw [T1,vcells_app,List.length_append];exact hownA
   clear hownA hgrowA
   have ct:wa.cell? ⟨w.heap.size+1+1+1+1,j,none⟩=some (.string (ttxt s s' j)):=by
    rw [cell_of_row _ _ _ _ _ _ TBA.out]
    have:j=0∨j=1∨j=2:=by omega
    rcases this with rfl | rfl | rfl <;> simp [ttxt,noText]
   clear cn
   have hx:(ttxt s s' j).size≤32:=by unfold ttxt;split;decide;split <;> assumption
   have hl1:=(T3_len n s n' s' j 0 hj (by omega)).1
   go_wp2_with (at_builtin;refine wpList_append_own _ rfl _ _ 275 rfl w.heap.size 94 i0 _ 3 32 Tryz.underlying275 hi hz0 hz1 hz2 rfl (by decide) _ _ _ rfl (OA.out.alloc _) ⟨wa.heap.size,0,none⟩ 1 1 [.int .i64 2,.int .i64 0,.string (ttxt s s' j)] rfl rfl (World.news_of_block (heap_alloc_new _ _)) ?c2B ?c3B ?c4B ?c5B ?_)
   case c2B=>intro u hu;simp at hu;rcases hu with rfl | rfl | rfl <;> rfl
   case c3B=>unfold maxLen;omega
   case c4B=>omega
   case c5B=>have:=gA.size;simp;omega
   intro vb wb hownB hgrowB _
   have gB:Gr w wb:=owns_grown rfl OA.out gA hgrowB
   have NBB:Hid (wb.heap[w.heap.size+1+1+1]? = some (.cells #[.int .i64 n,.int .i64 n',.int .i64 0] 3 (0,0))):=grown_block hgrowB (by rw [heap_alloc_old _ _ (blk_lt NBA.out)];exact NBA.out) (own_ne OA.out NBA.out (by decide))
   have TBB:Hid (wb.heap[w.heap.size+1+1+1+1]? = some (.cells #[.string ⟨#[]⟩,.string s,.string s'] 9 (0,0))):=grown_block hgrowB (by rw [heap_alloc_old _ _ (blk_lt TBA.out)];exact TBA.out) (own_ne OA.out TBA.out (by decide))
   have OB:Hid (wb.ownsRow w.heap.size 94 3 vb (T2 n s n' s' j).length (vcells (T2 n s n' s' j))):=by
    show World.ownsRow _ _ _ _ _ _ _
    rw [T2,vcells_app,List.length_append];exact hownB
   clear hownB hgrowB
   clear ct NB TB O NBA TBA OA
   go_wp2
   go_loopw [5,11] (fun v i wr=>∃ q:Nat,q≤4∧i = .int .i64 q∧Gr w wr∧Hid (wr.heap[w.heap.size+1+1+1]? = some (.cells #[.int .i64 n,.int .i64 n',.int .i64 0] 3 (0,0)))∧Hid (wr.heap[w.heap.size+1+1+1+1]? = some (.cells #[.string ⟨#[]⟩,.string s,.string s'] 9 (0,0)))∧Hid (wr.ownsRow w.heap.size 94 3 v (T3 n s n' s' j q).length (vcells (T3 n s n' s' j q)))) (fun _ i _=>4 - (intOf i).toNat)
   case atStart=>exact ⟨0,by omega,rfl,gB,NBB,TBB,by rw [T3_zero];exact OB.out⟩
   case round =>
    obtain ⟨q,hq,rfl,g2,NB2,TB2,O2⟩:=hrel
    have hl3:=(T3_len n s n' s' j q hj hq).2
    by_cases hqt:q<4
    ·have hc1:=cT_size q hqt
     by_cases hx2:(ttxt s s' j).size<32
     ·have HN:Hid (T3 n s n' s' j (q+1)=T3 n s n' s' j q++ext (ttxt s s' j) q):=T3_yes hx2
      go_wp2_with (at_builtin;refine wpList_append_own _ rfl _ _ 275 rfl w.heap.size 94 i0 _ 3 32 Tryz.underlying275 hi hz0 hz1 hz2 rfl (by decide) _ _ _ rfl (O2.out.alloc _) ⟨wr.heap.size,0,none⟩ 2 2 [.int .i64 2,.int .i64 0,.string (ttxt s s' j++(⟨#[97,122,0,255]⟩:ByteArray).extract q (q+1)),.int .i64 2,.int .i64 0,.string ((⟨#[97,122,0,255]⟩:ByteArray).extract q (q+1)++ttxt s s' j)] rfl rfl (World.news_of_block (heap_alloc_new _ _)) ?c2C ?c3C ?c4C ?c5C ?_)
      case c2C=>intro u hu;simp at hu;rcases hu with rfl | rfl | rfl | rfl | rfl | rfl <;> rfl
      case c3C=>unfold maxLen;omega
      case c4C=>omega
      case c5C=>have:=g2.size;simp;omega
      intro vc wc hownC hgrowC _
      have gC:Gr w wc:=owns_grown rfl O2.out g2 hgrowC
      have NBC:Hid (wc.heap[w.heap.size+1+1+1]? = some (.cells #[.int .i64 n,.int .i64 n',.int .i64 0] 3 (0,0))):=grown_block hgrowC (by rw [heap_alloc_old _ _ (blk_lt NB2.out)];exact NB2.out) (own_ne O2.out NB2.out (by decide))
      have TBC:Hid (wc.heap[w.heap.size+1+1+1+1]? = some (.cells #[.string ⟨#[]⟩,.string s,.string s'] 9 (0,0))):=grown_block hgrowC (by rw [heap_alloc_old _ _ (blk_lt TB2.out)];exact TB2.out) (own_ne O2.out TB2.out (by decide))
      have OC:Hid (wc.ownsRow w.heap.size 94 3 vc (T3 n s n' s' j (q+1)).length (vcells (T3 n s n' s' j (q+1)))):=by
       show World.ownsRow _ _ _ _ _ _ _
       rw [HN.out,vcells_app,List.length_append];exact hownC
      clear hownC hgrowC
      go_wp2
      go_roundw
      case rel=>exact ⟨q+1,by omega,by go_num,gC,NBC,TBC,OC⟩
      case measure=>simp [intOf];omega
     ·have HN:Hid (T3 n s n' s' j (q+1)=T3 n s n' s' j q):=T3_no hx2
      go_wp2
      go_roundw
      case rel=>exact ⟨q+1,by omega,by go_num,g2,NB2,TB2,by rw [HN.out];exact O2.out⟩
      case measure=>simp [intOf];omega
    ·have hq4:q=4:=by omega
     subst hq4
     go_wp2
     go_roundw
     case rel=>exact ⟨j+1,by omega,by go_num,g2,NB2,TB2,by rw [← T3_four];exact O2.out⟩
     case measure=>simp [intOf];omega
  ·have hj3:j=3:=by omega
   subst hj3
   go_wp2
   go_ret
   refine ⟨_,rfl,g,?_⟩
   rw [← TL_eq];exact O.out
structure Bx (w:World) (b:Nat) (a:ByteArray) (y k n:Int) (s:ByteArray):Prop where
 lt:b<w.heap.size
 c0:w.cell? ⟨b,0,none⟩=some (.string a)
 c1:w.cell? ⟨b,1,none⟩=some (.int .i64 y)
 c2:w.cell? ⟨b,1+1,none⟩=some (.int .i64 k)
 c3:w.cell? ⟨b,1+1+1,none⟩=some (.int .i64 n)
 c4:w.cell? ⟨b,1+1+1+1,none⟩=some (.string s)
theorem Bx.gr {w w':World} {b:Nat} {a:ByteArray} {y k n:Int} {s:ByteArray} (h:Bx w b a y k n s) (g:Gr w w'):Bx w' b a y k n s:=by
 obtain ⟨hc,_⟩:=bcell g
 exact ⟨Gr.lt g h.lt,by rw [hc _ _ h.lt];exact h.c0,by rw [hc _ _ h.lt];exact h.c1,by rw [hc _ _ h.lt];exact h.c2,by rw [hc _ _ h.lt];exact h.c3,by rw [hc _ _ h.lt];exact h.c4⟩
theorem Bx.new (w:World) (a:ByteArray) (y k n:Int) (s:ByteArray) (t:TypeId):Bx (w.alloc (.cells #[.string a,.int .i64 y,.int .i64 k,.int .i64 n,.string s] t)) w.heap.size a y k n s:=by
 constructor <;> simp [go_sem]
def tat (l:List (Int × Int × ByteArray)) (i:Nat):Int × Int × ByteArray:=l.getD i (0,0,noText)
theorem tat_mem {l:List (Int × Int × ByteArray)} {i:Nat} (h:i<l.length):tat l i∈l:=getD_mem h _
theorem owns_vals {w:World} {base:Nat} {e:TypeId} {g cap:Nat} {l:List (Int × Int × ByteArray)} (h:w.ownsRow base e 3 (.slice (some ⟨g,0,none⟩) l.length cap) l.length (vcells l)) (i:Nat) (hi:i<l.length) :
  w.cell? ⟨g,i*3,none⟩=some (.int .i64 (tat l i).1)∧w.cell? ⟨g,i*3+1,none⟩=some (.int .i64 (tat l i).2.1)∧w.cell? ⟨g,i*3+1+1,none⟩=some (.string (tat l i).2.2):=by
 have e:l[i]? = some (tat l i):=by simp [tat,List.getD_eq_getElem?_getD,List.getElem?_eq_getElem hi]
 obtain ⟨h1,h2,h3⟩:=vals_at l i _ e
 rw [World.ownsRow.cellAt h (i*3) (by omega),World.ownsRow.cellAt h (i*3+1) (by omega),World.ownsRow.cellAt h (i*3+1+1) (by omega)]
 exact ⟨h1,h2,h3⟩
theorem tried_size {n:Int} {s:ByteArray} {n':Int} {s':ByteArray} (hs:s.size≤32) (hs':s'.size≤32):∀ v∈triedL n s n' s',v.2.2.size≤33:=by
 have piece_sz:∀ (n:Int) (s:ByteArray),s.size≤32 → ∀ v∈piece n s,v.2.2.size≤33:=fun n s hs v hv=>by
  have a1:aT.size=1:=rfl
  have z1:zT.size=1:=rfl
  have o1:oT.size=1:=rfl
  have f1:fT.size=1:=rfl
  have e1:noText.size=0:=rfl
  unfold piece at hv
  rcases List.mem_append.1 hv with hv | hv
  ·simp only [List.mem_cons,List.not_mem_nil,or_false] at hv
   rcases hv with rfl | rfl | rfl | rfl <;> simp only <;> omega
  ·split at hv
   ·simp only [List.mem_cons,List.not_mem_nil,or_false] at hv
    rcases hv with rfl | rfl | rfl | rfl | rfl | rfl | rfl | rfl <;> simp only [app_size] <;> omega
   ·simp at hv
 intro v hv
 unfold triedL at hv
 rcases List.mem_append.1 hv with hv | hv
 ·rcases List.mem_append.1 hv with hv | hv
  ·rcases List.mem_append.1 hv with hv | hv
   ·simp only [List.mem_cons,List.not_mem_nil,or_false] at hv
    rcases hv with rfl | rfl | rfl | rfl <;> decide
   ·exact piece_sz n noText (by decide) v hv
  ·exact piece_sz n' s hs v hv
 ·exact piece_sz 0 s' hs' v hv
set_option maxRecDepth 100000 in
set_option maxHeartbeats 8000000 in
theorem refImplies_any (a:ByteArray) (y k n:Int) (s a':ByteArray) (y' k' n':Int) (s':ByteArray) (w:World) (ha:a.size≤maxLen) (ha':a'.size≤maxLen) (hlo:minI≤n) (hhi:n≤maxI) (hlo':minI≤n') (hhi':n'≤maxI) :
  Calls Tryz.prog 163 #[.agg #[.string a,.int .i64 y,.int .i64 k,.int .i64 n,.string s],.agg #[.string a',.int .i64 y',.int .i64 k',.int .i64 n',.string s']] w
   fun e w'=>e = .returned (.bool (impB a y k n s a' y' k' n' s'))∧Gr w w':=by
 have Hlo:Hid (minI≤n∧n≤maxI∧minI≤n'∧n'≤maxI):=⟨hlo,hhi,hlo',hhi'⟩
 clear hlo hhi hlo' hhi'
 cases h1:wantOk a y k n s
 ·have Hr:Hid (impB a y k n s a' y' k' n' s'=false):=by
   show _=_
   simp [impB,h1]
  go_enter Tryz.func163,Tryz.ntmps163
  go_wp2_with fail
  refine (WantOf_any _ _ _ _ _ _ ha).mono ?_
  rw [h1]
  rintro e w1 ⟨rfl,hb1⟩
  obtain ⟨hc1,hf1⟩:=bcell hb1
  go_wp2_with fail
  refine (WantOf_any _ _ _ _ _ _ ha').mono ?_
  rintro e w2 ⟨rfl,hb2⟩
  go_wp2_with fail
  go_ret
  exact ⟨ret_bool (by rw [Hr.out]),Gr.call (Gr.call (((Gr.refl w).alloc _).alloc _) hb1) hb2⟩
 cases h2:wantOk a' y' k' n' s'
 ·have Hr:Hid (impB a y k n s a' y' k' n' s'=false):=by
   show _=_
   simp [impB,h2]
  go_enter Tryz.func163,Tryz.ntmps163
  go_wp2_with fail
  refine (WantOf_any _ _ _ _ _ _ ha).mono ?_
  rw [h1]
  rintro e w1 ⟨rfl,hb1⟩
  obtain ⟨hc1,hf1⟩:=bcell hb1
  go_wp2_with fail
  refine (WantOf_any _ _ _ _ _ _ ha').mono ?_
  rw [h2]
  rintro e w2 ⟨rfl,hb2⟩
  go_wp2_with fail
  go_ret
  exact ⟨ret_bool (by rw [Hr.out]),Gr.call (Gr.call (((Gr.refl w).alloc _).alloc _) hb1) hb2⟩
 have Hw:Hid (wayOk y k n s=true):=by
  show _=_
  simp [wantOk] at h1;exact h1.2
 have Hw':Hid (wayOk y' k' n' s'=true):=by
  show _=_
  simp [wantOk] at h2;exact h2.2
 have hs:=way_size Hw.out
 have hs':=way_size Hw'.out
 cases h3:(a.toList==a'.toList)
 ·have Hr:Hid (impB a y k n s a' y' k' n' s'=false):=by
   show _=_
   simp [impB,h3]
  go_enter Tryz.func163,Tryz.ntmps163
  go_wp2_with fail
  refine (WantOf_any _ _ _ _ _ _ ha).mono ?_
  rw [h1]
  rintro e w1 ⟨rfl,hb1⟩
  have b1:=(Bx.new w a y k n s 96).gr (Gr.call ((Gr.refl _).alloc _) hb1)
  have b2:=(Bx.new (w.alloc (.cells #[.string a,.int .i64 y,.int .i64 k,.int .i64 n,.string s] 96)) a' y' k' n' s' 96).gr hb1
  rw [show (w.alloc (.cells #[.string a,.int .i64 y,.int .i64 k,.int .i64 n,.string s] 96)).heap.size=w.heap.size+1 by simp] at b2
  have B1:Hid (Bx w1 w.heap.size a y k n s):=b1
  have q0:=b2.c0
  have q1:=b2.c1
  have q2:=b2.c2
  have q3:=b2.c3
  have q4:=b2.c4
  have B2:Hid (Bx w1 (w.heap.size+1) a' y' k' n' s'):=b2
  clear b1 b2
  go_wp2_with fail
  refine (WantOf_any _ _ _ _ _ _ ha').mono ?_
  rw [h2]
  rintro e w2 ⟨rfl,hb2⟩
  clear q0 q1 q2 q3 q4
  have r0:=(B1.out.gr hb2).c0
  have r1:=(B2.out.gr hb2).c0
  go_wp2_with fail
  go_ret
  exact ⟨ret_bool (by rw [Hr.out]),Gr.call (Gr.call (((Gr.refl w).alloc _).alloc _) hb1) hb2⟩
 have HT:Hid (impB a y k n s a' y' k' n' s'=triedB y k n s y' k' n' s'):=by
  show _=_
  rw [tried_eq Hw.out Hw'.out Hlo.out.1 Hlo.out.2.1 Hlo.out.2.2.1 Hlo.out.2.2.2]
  simp [impB,h1,h2,h3]
 go_enter Tryz.func163,Tryz.ntmps163
 go_wp2_with fail
 refine (WantOf_any _ _ _ _ _ _ ha).mono ?_
 rw [h1]
 rintro e w1 ⟨rfl,hb1⟩
 have b1:=(Bx.new w a y k n s 96).gr (Gr.call ((Gr.refl _).alloc _) hb1)
 have b2:=(Bx.new (w.alloc (.cells #[.string a,.int .i64 y,.int .i64 k,.int .i64 n,.string s] 96)) a' y' k' n' s' 96).gr hb1
 rw [show (w.alloc (.cells #[.string a,.int .i64 y,.int .i64 k,.int .i64 n,.string s] 96)).heap.size=w.heap.size+1 by simp] at b2
 have g1:Gr w w1:=Gr.call (((Gr.refl w).alloc _).alloc _) hb1
 have B1:Hid (Bx w1 w.heap.size a y k n s):=b1
 have B2:Hid (Bx w1 (w.heap.size+1) a' y' k' n' s'):=b2
 clear b1 b2 hb1
 have q0:=B2.out.c0
 have q1:=B2.out.c1
 have q2:=B2.out.c2
 have q3:=B2.out.c3
 have q4:=B2.out.c4
 go_wp2_with fail
 refine (WantOf_any _ _ _ _ _ _ ha').mono ?_
 rw [h2]
 rintro e w2 ⟨rfl,hb2⟩
 have g2:Gr w w2:=Gr.call g1 hb2
 have B12:Hid (Bx w2 w.heap.size a y k n s):=B1.out.gr hb2
 have B22:Hid (Bx w2 (w.heap.size+1) a' y' k' n' s'):=B2.out.gr hb2
 clear q0 q1 q2 q3 q4 B1 B2 hb2 g1
 have p0:=B12.out.c0
 have p1:=B12.out.c1
 have p2:=B12.out.c2
 have p3:=B12.out.c3
 have p4:=B12.out.c4
 have q0:=B22.out.c0
 have q1:=B22.out.c1
 have q2:=B22.out.c2
 have q3:=B22.out.c3
 have q4:=B22.out.c4
 go_wp2_with fail
 refine (tried_any _ _ _ _ _ _ _ _ _ _ _ hs hs').mono ?_
 rintro e w3 ⟨v3,rfl,hb3,hown⟩
 have g3:Gr w w3:=Gr.call g2 hb3
 have B13:Hid (Bx w3 w.heap.size a y k n s):=B12.out.gr hb3
 have B23:Hid (Bx w3 (w.heap.size+1) a' y' k' n' s'):=B22.out.gr hb3
 clear p0 p1 p2 p3 p4 q0 q1 q2 q3 q4 B12 B22 hb3 g2
 obtain ⟨gl,cl,rfl⟩:∃ g cap,v3 = .slice (some ⟨g,0,none⟩) (triedL n s n' s').length cap:=by
  rcases hown.2 with ⟨_,hn⟩ | ⟨g,cap,cur,hv,_⟩
  ·simp [triedL] at hn
  ·exact ⟨g,cap,hv⟩
 have HO:Hid (w3.ownsRow _ 94 3 (.slice (some ⟨gl,0,none⟩) (triedL n s n' s').length cl) (triedL n s n' s').length (vcells (triedL n s n' s'))):=hown
 have HS:Hid (∀ v∈triedL n s n' s',v.2.2.size≤33):=tried_size hs hs'
 have hlen:(triedL n s n' s').length≤60:=by
  have:=TL_len n s n' s' 3
  rw [TL_eq] at this;omega
 clear hown
 go_wp2_with fail
 go_loopw [8] (fun i wr=>∃ q:Nat,q≤(triedL n s n' s').length∧i = .int .i64 q∧Gr w3 wr∧Hid (((triedL n s n' s').take q).all (fun v => !(lets y k n s v.1 v.2.1 v.2.2 && !lets y' k' n' s' v.1 v.2.1 v.2.2))=true)) (fun i _=>(triedL n s n' s').length - (intOf i).toNat)
 case atStart=>exact ⟨0,Nat.zero_le _,rfl,Gr.refl _,rfl⟩
 case round =>
  obtain ⟨q,hq,rfl,gr,HA⟩:=hrel
  by_cases hlt:q<(triedL n s n' s').length
  ·obtain ⟨t0,t1,t2⟩:=owns_vals (ownsGr HO.out gr) q hlt
   have HSq:=HS.out _ (tat_mem hlt)
   have p0:=(B13.out.gr gr).c0
   have p1:=(B13.out.gr gr).c1
   have p2:=(B13.out.gr gr).c2
   have p3:=(B13.out.gr gr).c3
   have p4:=(B13.out.gr gr).c4
   have hq0:(0:Int)≤(q:Int):=by omega
   have hq1:(q:Int)<((triedL n s n' s').length:Int):=by omega
   cases hl1:lets y k n s (tat (triedL n s n' s') q).1 (tat (triedL n s n' s') q).2.1 (tat (triedL n s n' s') q).2.2
   ·have HN:Hid (((triedL n s n' s').take (q+1)).all (fun v => !(lets y k n s v.1 v.2.1 v.2.2 && !lets y' k' n' s' v.1 v.2.1 v.2.2))=true):=all_snoc _ _ q (0,0,noText) hlt HA.out (by show (!(lets y k n s (tat (triedL n s n' s') q).1 (tat (triedL n s n' s') q).2.1 (tat (triedL n s n' s') q).2.2 && !lets y' k' n' s' (tat (triedL n s n' s') q).1 (tat (triedL n s n' s') q).2.1 (tat (triedL n s n' s') q).2.2))=true;rw [hl1];rfl)
    go_wp2_with fail
    first | go_region_with (go_at_call 142;refine (Lets_any _ _ _ _ _ _ _ _ _ Hw.out (by omega) HSq).mono ?_;rw [hl1];rintro e w4 ⟨rfl,hb4⟩) | fail
    all_goals
     have g4:Gr w3 w4:=Gr.call gr.drew hb4
     clear hb4
     go_wp2
     first | go_region_with fail | fail
     all_goals
      go_wp2
      go_roundw
      case rel=>exact ⟨q+1,by omega,by go_num,g4.drew,HN⟩
      case measure=>simp [intOf];omega
   ·cases hl2:lets y' k' n' s' (tat (triedL n s n' s') q).1 (tat (triedL n s n' s') q).2.1 (tat (triedL n s n' s') q).2.2
    ·have HR:Hid (impB a y k n s a' y' k' n' s'=false):=by
      show _=_
      rw [HT.out]
      exact all_stop _ _ q (0,0,noText) hlt (by show (!(lets y k n s (tat (triedL n s n' s') q).1 (tat (triedL n s n' s') q).2.1 (tat (triedL n s n' s') q).2.2 && !lets y' k' n' s' (tat (triedL n s n' s') q).1 (tat (triedL n s n' s') q).2.1 (tat (triedL n s n' s') q).2.2))=false;rw [hl1,hl2];rfl)
     go_wp2_with fail
     first | go_region_with (go_at_call 142;refine (Lets_any _ _ _ _ _ _ _ _ _ Hw.out (by omega) HSq).mono ?_;rw [hl1];rintro e w4 ⟨rfl,hb4⟩) | fail
     all_goals
      have g4:Gr w3 w4:=Gr.call gr.drew hb4
      clear hb4 t0 t1 t2 p0 p1 p2 p3 p4
      obtain ⟨t0,t1,t2⟩:=owns_vals (ownsGr HO.out g4) q hlt
      have p0:=(B23.out.gr g4).c0
      have p1:=(B23.out.gr g4).c1
      have p2:=(B23.out.gr g4).c2
      have p3:=(B23.out.gr g4).c3
      have p4:=(B23.out.gr g4).c4
      go_wp2
      first | go_region_with (go_at_call 142;refine (Lets_any _ _ _ _ _ _ _ _ _ Hw'.out (by omega) HSq).mono ?_;rw [hl2];rintro e w5 ⟨rfl,hb5⟩) | fail
      all_goals
       go_wp2
       go_ret
       exact ⟨ret_bool (by rw [HR.out]),Gr.call g3 (Gr.call g4.drew hb5)⟩
    ·have HN:Hid (((triedL n s n' s').take (q+1)).all (fun v => !(lets y k n s v.1 v.2.1 v.2.2 && !lets y' k' n' s' v.1 v.2.1 v.2.2))=true):=all_snoc _ _ q (0,0,noText) hlt HA.out (by show (!(lets y k n s (tat (triedL n s n' s') q).1 (tat (triedL n s n' s') q).2.1 (tat (triedL n s n' s') q).2.2 && !lets y' k' n' s' (tat (triedL n s n' s') q).1 (tat (triedL n s n' s') q).2.1 (tat (triedL n s n' s') q).2.2))=true;rw [hl1,hl2];rfl)
     go_wp2_with fail
     first | go_region_with (go_at_call 142;refine (Lets_any _ _ _ _ _ _ _ _ _ Hw.out (by omega) HSq).mono ?_;rw [hl1];rintro e w4 ⟨rfl,hb4⟩) | fail
     all_goals
      have g4:Gr w3 w4:=Gr.call gr.drew hb4
      clear hb4 t0 t1 t2 p0 p1 p2 p3 p4
      obtain ⟨t0,t1,t2⟩:=owns_vals (ownsGr HO.out g4) q hlt
      have p0:=(B23.out.gr g4).c0
      have p1:=(B23.out.gr g4).c1
      have p2:=(B23.out.gr g4).c2
      have p3:=(B23.out.gr g4).c3
      have p4:=(B23.out.gr g4).c4
      go_wp2
      first | go_region_with (go_at_call 142;refine (Lets_any _ _ _ _ _ _ _ _ _ Hw'.out (by omega) HSq).mono ?_;rw [hl2];rintro e w5 ⟨rfl,hb5⟩) | fail
      all_goals
       have g5:Gr w3 w5:=Gr.call g4.drew hb5
       go_wp2
       go_roundw
       case rel=>exact ⟨q+1,by omega,by go_num,g5,HN⟩
       case measure=>simp [intOf];omega
  ·have HR:Hid (impB a y k n s a' y' k' n' s'=true):=by
    show _=_
    rw [HT.out]
    exact all_end _ _ q hlt HA.out
   go_wp2
   go_ret
   exact ⟨ret_bool (by rw [HR.out]),Gr.call g3 gr⟩
theorem any_take {α : Type} (p : α → Bool) (l:List α) (k:Nat) (d : α) (h:k<l.length):(l.take (k+1)).any p=((l.take k).any p||p (l.getD k d)):=by
 rw [List.take_succ_eq_append_getElem h,List.any_append]
 simp [List.getD_eq_getElem?_getD,List.getElem?_eq_getElem h]
set_option maxHeartbeats 1000000 in
theorem refCheck_nil (ad:Option Addr) (cap:Nat) (w:World):Calls Tryz.prog 94 #[.slice ad 0 cap] w fun e w'=>e = .returned (.int .i64 2)∧w'=w:=by
 go_enter Tryz.func94,Tryz.ntmps94
 go_wp2
 go_ret
 exact ⟨rfl,rfl⟩
theorem refCheck_ad (l:List Wnt) (ad:Option Addr) (cap:Nat) (w:World) (hl:l.length≤maxLen) (h:FiAt w ad l) (hwf:∀ x∈l,Wnt.Wf x) :
  Calls Tryz.prog 94 #[.slice ad l.length cap] w fun e w'=>e = .returned (.int .i64 (chk l))∧Gr w w':=by
 rcases h with rfl | ⟨b,off,rfl,hb,hat⟩
 ·exact (refCheck_nil ad cap w).mono fun e w' ⟨h1,h2⟩=>⟨h1,by rw [h2];exact Gr.refl _⟩
 ·exact refCheck_any l b off cap w hl hb hat hwf
set_option maxRecDepth 100000 in
set_option maxHeartbeats 4000000 in
theorem refCovers_any (f g:List Wnt) (ad ad':Option Addr) (cap cap':Nat) (w:World) (hl:f.length≤maxLen) (h:FiAt w ad f) (hwf:∀ x∈f,Wnt.Wf x)
  (hl':g.length≤maxLen) (h':FiAt w ad' g) (hwf':∀ x∈g,Wnt.Wf x) :
  Calls Tryz.prog 141 #[.slice ad f.length cap,.slice ad' g.length cap'] w fun e w'=>e = .returned (.bool (cov f g))∧Gr w w':=by
 have HC:Hid (FiAt w ad f):=h
 have HF:Hid (∀ x∈f,Wnt.Wf x):=hwf
 have HC':Hid (FiAt w ad' g):=h'
 have HF':Hid (∀ x∈g,Wnt.Wf x):=hwf'
 have HL:Hid (f.length≤maxLen):=hl
 have HL':Hid (g.length≤maxLen):=hl'
 unfold maxLen at hl hl'
 clear h hwf h' hwf'
 cases h1:filterOk f
 ·have Hc:Hid (chk f=2):=by
   show _=_
   simp [chk,h1]
  have Hr:Hid (cov f g=false):=by
   show _=_
   simp [cov,h1]
  go_enter Tryz.func141,Tryz.ntmps141
  go_wp2_with fail
  refine (refCheck_ad _ _ _ _ HL.out HC.out HF.out).mono ?_
  rw [Hc.out]
  rintro e w1 ⟨rfl,hb1⟩
  go_wp2_with fail
  go_ret
  exact ⟨ret_bool (by rw [Hr.out]),hb1⟩
 have Hc:Hid (chk f=0):=by
  show _=_
  simp [chk,h1]
 cases h2:filterOk g
 ·have Hc':Hid (chk g=2):=by
   show _=_
   simp [chk,h2]
  have Hr:Hid (cov f g=false):=by
   show _=_
   simp [cov,h2]
  go_enter Tryz.func141,Tryz.ntmps141
  go_wp2_with fail
  refine (refCheck_ad _ _ _ _ HL.out HC.out HF.out).mono ?_
  rw [Hc.out]
  rintro e w1 ⟨rfl,hb1⟩
  go_wp2_with fail
  refine (refCheck_ad _ _ _ _ HL'.out (HC'.out.gr hb1) HF'.out).mono ?_
  rw [Hc'.out]
  rintro e w2 ⟨rfl,hb2⟩
  go_wp2_with fail
  go_ret
  exact ⟨ret_bool (by rw [Hr.out]),Gr.call hb1 hb2⟩
 have Hc':Hid (chk g=0):=by
  show _=_
  simp [chk,h2]
 have Hr:Hid (cov f g=f.all fun x=>g.any fun v=>impW v x):=by
  show _=_
  simp [cov,h1,h2]
 obtain ⟨b,off,rfl,hb,hat⟩:∃ b off,ad=some ⟨b,off,none⟩∧b<w.heap.size∧WantsAt w b off f:=by
  rcases HC.out with h | h
  ·exact absurd h (fi_ok_of h1).2
  ·exact h
 obtain ⟨b',off',rfl,hb',hat'⟩:∃ b off,ad'=some ⟨b,off,none⟩∧b<w.heap.size∧WantsAt w b off g:=by
  rcases HC'.out with h | h
  ·exact absurd h (fi_ok_of h2).2
  ·exact h
 have HA:Hid (WantsAt w b off f):=hat
 have HA':Hid (WantsAt w b' off' g):=hat'
 clear hat hat'
 go_enter Tryz.func141,Tryz.ntmps141
 go_wp2_with fail
 refine (refCheck_ad _ _ _ _ HL.out HC.out HF.out).mono ?_
 rw [Hc.out]
 rintro e w1 ⟨rfl,hb1⟩
 go_wp2_with fail
 refine (refCheck_ad _ _ _ _ HL'.out (HC'.out.gr hb1) HF'.out).mono ?_
 rw [Hc'.out]
 rintro e w2 ⟨rfl,hb2⟩
 have g2:Gr w w2:=Gr.call hb1 hb2
 clear hb1 hb2
 go_wp2_with fail
 go_loopw [5] (fun i wr=>∃ k:Nat,k≤f.length∧i = .int .i64 k∧Gr w wr∧Hid ((f.take k).all (fun x=>g.any fun v=>impW v x)=true)) (fun i _=>f.length - (intOf i).toNat)
 case atStart=>exact ⟨0,Nat.zero_le _,rfl,g2,rfl⟩
 case round =>
  obtain ⟨k,hk,rfl,gr,HP⟩:=hrel
  by_cases hlt:k<f.length
  ·go_wp2_with fail
   go_loopw [6,7] (fun fb i wr=>∃ (q:Nat) (c:Bool),q≤g.length∧i = .int .i64 q∧fb = .bool c∧Gr w wr∧Hid (c=(g.take q).any (fun v=>impW v (wat f k)))) (fun _ i _=>g.length - (intOf i).toNat)
   case atStart=>exact ⟨0,false,Nat.zero_le _,rfl,rfl,gr,rfl⟩
   case round =>
    obtain ⟨q,c,hq,rfl,rfl,gq,HQ⟩:=hrel
    by_cases hqt:q<g.length
    ·obtain ⟨c1,c2,c3,c4,c5⟩:=(HA.out.gr gq hb) k hlt
     obtain ⟨d1,d2,d3,d4,d5⟩:=(HA'.out.gr gq hb') q hqt
     have e1:(0:Int)≤(k:Int):=by omega
     have e2:(k:Int)<(f.length:Int):=by omega
     have e3:(0:Int)≤(q:Int):=by omega
     have e4:(q:Int)<(g.length:Int):=by omega
     have HN:Hid ((g.take (q+1)).any (fun v=>impW v (wat f k))=((g.take q).any (fun v=>impW v (wat f k))||impW (wat g q) (wat f k))):=any_take _ g q dW hqt
     go_wp2_with fail
     first | go_region_with (go_at_call 163;refine (refImplies_any _ _ _ _ _ _ _ _ _ _ _ (HF'.out _ (wat_mem hqt)).a (HF.out _ (wat_mem hlt)).a (HF'.out _ (wat_mem hqt)).n1 (HF'.out _ (wat_mem hqt)).n2 (HF.out _ (wat_mem hlt)).n1 (HF.out _ (wat_mem hlt)).n2).mono ?_;rintro e w4 ⟨rfl,hb4⟩) | fail
     all_goals
      have g4:Gr w w4:=Gr.call gq.drew hb4
      clear hb4 c1 c2 c3 c4 c5 d1 d2 d3 d4 d5
      cases c
      ·go_wp2
       go_roundw
       case rel=>exact ⟨q+1,impW (wat g q) (wat f k),by omega,by go_num,rfl,g4,by show _=_;rw [HN.out, ← HQ.out];rfl⟩
       case measure=>simp [intOf];omega
      ·go_wp2
       go_roundw
       case rel=>exact ⟨q+1,true,by omega,by go_num,rfl,g4,by show _=_;rw [HN.out, ← HQ.out];rfl⟩
       case measure=>simp [intOf];omega
    ·have HE:Hid (c=g.any fun v=>impW v (wat f k)):=by
      show _=_
      rw [HQ.out,List.take_of_length_le (by omega)]
     cases c
     ·have HS:Hid (cov f g=false):=by
       show _=_
       rw [Hr.out]
       exact all_stop _ f k dW hlt HE.out.symm
      go_wp2
      go_ret
      exact ⟨ret_bool (by rw [HS.out]),gq⟩
     ·go_wp2
      go_roundw
      case rel=>exact ⟨k+1,by omega,by go_num,gq,all_snoc _ f k dW hlt HP.out HE.out.symm⟩
      case measure=>simp [intOf];omega
  ·go_wp2
   go_ret
   refine ⟨ret_bool ?_,gr⟩
   rw [Hr.out,all_end _ f k hlt HP.out]
theorem refCoversM (f g:List Wnt) (a a':Option Addr) (c c':Nat) (w:World) (h:FiM w a f) (h':FiM w a' g) :
  Calls Tryz.prog 141 #[.slice a f.length c,.slice a' g.length c'] w fun e w'=>e = .returned (.bool (cov f g))∧Gr w w':=by
 obtain ⟨b,off,rfl,h2,h3⟩:=h.at'
 obtain ⟨b',off',rfl,h2',h3'⟩:=h'.at'
 exact refCovers_any f g _ _ c c' w (by have:=h.len;unfold maxLen;omega) (Or.inr ⟨b,off,rfl,h2,h3⟩) h.wf (by have:=h'.len;unfold maxLen;omega) (Or.inr ⟨b',off',rfl,h2',h3'⟩) h'.wf
theorem refCovers_s (wz:World) (f g:List Wnt) (a a':Option Addr) (c c':Nat) (w:World) (h:FiM wz a f) (h':FiM wz a' g) (z:Gr wz w) :
  Calls Tryz.prog 141 #[.slice a f.length c,.slice a' g.length c'] w fun e w'=>e = .returned (.bool (cov f g))∧Gr wz w' :=
 (refCoversM f g a a' c c' w (h.gr z) (h'.gr z)).mono fun _ _ ⟨h1,h2⟩=>⟨h1,Gr.call z h2⟩
theorem ahead_s (wz:World) (a b:Ky) (w:World) (z:Gr wz w):Calls Tryz.prog 120 #[.agg #[.int .i64 a.1,.int .i64 a.2],.agg #[.int .i64 b.1,.int .i64 b.2]] w fun e w'=>e = .returned (.bool (klt a b))∧Gr wz w' :=
 (ahead_any a b w).mono fun _ _ ⟨h1,h2⟩=>⟨h1,Gr.call z h2⟩
def hidB (X:List Hm) (h:Hw) (n:Int):Bool:=X.any fun g => !(g.1.fr==n)&&hides cov g.1 h
set_option maxRecDepth 100000 in
set_option maxHeartbeats 4000000 in
theorem hidden_row (TB HB nb hcap:Nat) (ad:Option Addr) (cap:Nat) (X:List Hm) (w:World) (b:Nat) (hb:b<nb) (i:Nat) (hi:i<X.length) (n:Int)
  (htb:w.cell? ⟨TB,0,none⟩=some (.slice (some ⟨HB,0,none⟩) nb hcap)) (hhb:w.cell? ⟨HB,b,none⟩=some (.slice ad X.length cap)) (hrow:RowAt w ad (hcells X)) (hfi:∀ x∈X,FiM w x.2.1 x.1.f) (hlen:X.length≤maxLen) :
  Calls Tryz.prog 121 #[.pointer (some ⟨TB,0,none⟩),.int .i64 b,.int .i64 i,.int .i64 n] w fun e w'=>e = .returned (.bool (hidB X (hat X i).1 n))∧Gr w w':=by
 have ROW:=Hid.mk' hrow
 have FI:=Hid.mk' hfi
 unfold maxLen at hlen
 clear hrow hfi
 go_enter Tryz.func121,Tryz.ntmps121
 go_wp2_with fail
 clear htb hhb
 go_loopw [10] (fun j wr=>∃ q:Nat,q≤X.length∧j = .int .i64 q∧Hid (Gr w wr)∧Hid (hidB (X.take q) (hat X i).1 n=false)) (fun j _=>X.length - (intOf j).toNat)
 case atStart=>exact ⟨0,Nat.zero_le _,rfl,Gr.refl _,by simp [Hid,hidB]⟩
 case round =>
  obtain ⟨q,hq,rfl,G,HN⟩:=hrel
  by_cases hql:q<X.length
  ·have HS:Hid (hidB (X.take (q+1)) (hat X i).1 n=(!((hat X q).1.fr==n)&&hides cov (hat X q).1 (hat X i).1)):=by
    show _=_
    have h0:=HN.out
    unfold hidB at h0 ⊢
    rw [any_taken _ X q _ hql,h0,Bool.false_or];rfl
   by_cases hqi:q=i
   ·have HR:Hid (hidB (X.take (q+1)) (hat X i).1 n=false):=by
     show _=_
     rw [HS.out,hqi,hides_irr,Bool.and_false]
    clear HS HN
    subst hqi
    go_wp2_with fail
    exact ⟨⟨q+1,hql,by simp,G,HR⟩,measM_dec _ _ hql⟩
   have hqi':((q:Int)==(i:Int))=false:=by simp;omega
   clear hqi
   obtain ⟨b,off,rfl,hb',c0,c1,c2,c3⟩:=(ROW.out.gr G.out).hold hql
   have HT:Hid (hides cov (hat X q).1 (hat X i).1=true→((hat X q).1.fr==n)=false→hidB X (hat X i).1 n=true):=fun h h'=>List.any_eq_true.2 ⟨_,hat_mem hql,by simp [h,h']⟩
   by_cases hs:(hat X q).1.fr=n
   ·have HR:Hid (hidB (X.take (q+1)) (hat X i).1 n=false):=by
     show _=_
     rw [HS.out,hs];simp
    have hs':((hat X q).1.fr==n)=true:=by simp [hs]
    clear HS HN HT
    generalize hat X q=x at *
    go_wp2_with fail
    exact ⟨⟨q+1,hql,by simp,G,HR⟩,measM_dec _ _ hql⟩
   have hs':((hat X q).1.fr==n)=false:=by simp [hs]
   obtain ⟨b2,off2,he,hb2,d0,d1,d2,d3⟩:=(ROW.out.gr G.out).hold hi
   cases he
   have F1:=Hid.mk' ((FI.out _ (hat_mem hql)).gr G.out)
   have F2:=Hid.mk' ((FI.out _ (hat_mem hi)).gr G.out)
   generalize hat X q=x at *
   generalize hyy:hat X i=y at *
   have HYY:=Hid.mk' hyy
   clear hyy
   have T:Hid (∀ w',Gr wr w'→(Gr wr w'∧w'.cell? ⟨b,off+q*4,none⟩=some (.int .i64 x.1.key.1)∧w'.cell? ⟨b,off+q*4+1,none⟩=some (.int .i64 x.1.key.2)∧w'.cell? ⟨b,off+q*4+1+1,none⟩=some (.slice x.2.1 x.1.f.length x.2.2)∧w'.cell? ⟨b,off+i*4,none⟩=some (.int .i64 y.1.key.1)∧w'.cell? ⟨b,off+i*4+1,none⟩=some (.int .i64 y.1.key.2)∧w'.cell? ⟨b,off+i*4+1+1,none⟩=some (.slice y.2.1 y.1.f.length y.2.2))):=fun w' g=>by
    simp only [(bcell g).1 b _ hb']
    exact ⟨g,c0,c1,c2,d0,d1,d2⟩
   go_wp2_with fail
   go_region_held3 (fun w'=>Gr wr w'∧w'.cell? ⟨b,off+q*4,none⟩=some (.int .i64 x.1.key.1)∧w'.cell? ⟨b,off+q*4+1,none⟩=some (.int .i64 x.1.key.2)∧w'.cell? ⟨b,off+q*4+1+1,none⟩=some (.slice x.2.1 x.1.f.length x.2.2)∧w'.cell? ⟨b,off+i*4,none⟩=some (.int .i64 y.1.key.1)∧w'.cell? ⟨b,off+i*4+1,none⟩=some (.int .i64 y.1.key.2)∧w'.cell? ⟨b,off+i*4+1+1,none⟩=some (.slice y.2.1 y.1.f.length y.2.2))
    (exact T.out _ (by first | exact Gr.refl _ | assumption | exact Gr.drew (Gr.refl _) | exact Gr.drew (by assumption))) (first | (go_at_call 141;refine (refCovers_s wr _ _ _ _ _ _ _ F1.out F2.out (by exact (show Gr wr _∧_ by assumption).1)).mono ?_;rintro e w4 ⟨rfl,g4⟩))
   clear c0 c1 c2 c3 d0 d1 d2 d3
   obtain ⟨_,c0,c1,c2,d0,d1,d2⟩:=T.out _ g4
   go_wp2_with fail
   go_region_held3 (fun w'=>Gr wr w'∧w'.cell? ⟨b,off+q*4,none⟩=some (.int .i64 x.1.key.1)∧w'.cell? ⟨b,off+q*4+1,none⟩=some (.int .i64 x.1.key.2)∧w'.cell? ⟨b,off+q*4+1+1,none⟩=some (.slice x.2.1 x.1.f.length x.2.2)∧w'.cell? ⟨b,off+i*4,none⟩=some (.int .i64 y.1.key.1)∧w'.cell? ⟨b,off+i*4+1,none⟩=some (.int .i64 y.1.key.2)∧w'.cell? ⟨b,off+i*4+1+1,none⟩=some (.slice y.2.1 y.1.f.length y.2.2))
    (exact T.out _ (by first | exact Gr.refl _ | assumption | exact Gr.drew (Gr.refl _) | exact Gr.drew (by assumption))) (first | (go_at_call 141;refine (refCovers_s wr _ _ _ _ _ _ _ F2.out F1.out (by exact (show Gr wr _∧_ by assumption).1)).mono ?_;rintro e w5 ⟨rfl,g5⟩))
   clear c0 c1 c2 d0 d1 d2
   obtain ⟨_,c0,c1,c2,d0,d1,d2⟩:=T.out _ g5
   have HV:Hid (hides cov x.1 y.1=(cov x.1.f y.1.f&&(!(cov y.1.f x.1.f)||klt x.1.key y.1.key))):=rfl
   have G5:=Hid.mk' (Gr.call G.out g5)
   cases e1:cov x.1.f y.1.f with
   | false =>
    have HR:Hid (hidB (X.take (q+1)) y.1 n=false):=by show _=_;rw [HS.out,HV.out,e1];simp
    go_wp2_with fail
    go_quiet (fail)
    have G6:=Hid.mk' (G5.out.drewN nq)
    clear c0 c1 c2 d0 d1 d2
    go_wp2_with fail
    exact ⟨⟨q+1,hql,by simp,G6,HR⟩,measM_dec _ _ hql⟩
   | true =>
    cases e2:cov y.1.f x.1.f with
    | false =>
     have HR:=Hid.mk' (HT.out (by rw [HV.out,e1,e2];rfl) hs')
     go_wp2_with fail
     go_quiet (fail)
     have G6:=Hid.mk' (G5.out.drewN nq)
     clear c0 c1 c2 d0 d1 d2
     go_wp2_with fail
     go_ret
     exact ⟨ret_bool (by rw [HYY.out,HR.out]),G6.out⟩
    | true =>
     have HVV:Hid (hides cov x.1 y.1=klt x.1.key y.1.key):=by show _=_;rw [HV.out,e1,e2];simp
     go_wp2_with fail
     go_region_held3 (fun w'=>Gr wr w'∧w'.cell? ⟨b,off+q*4,none⟩=some (.int .i64 x.1.key.1)∧w'.cell? ⟨b,off+q*4+1,none⟩=some (.int .i64 x.1.key.2)∧w'.cell? ⟨b,off+q*4+1+1,none⟩=some (.slice x.2.1 x.1.f.length x.2.2)∧w'.cell? ⟨b,off+i*4,none⟩=some (.int .i64 y.1.key.1)∧w'.cell? ⟨b,off+i*4+1,none⟩=some (.int .i64 y.1.key.2)∧w'.cell? ⟨b,off+i*4+1+1,none⟩=some (.slice y.2.1 y.1.f.length y.2.2))
      (exact T.out _ (by first | exact Gr.refl _ | assumption | exact Gr.drew (Gr.refl _) | exact Gr.drew (by assumption))) (first | (go_at_call 120;refine (ahead_s wr x.1.key y.1.key _ (by exact (show Gr wr _∧_ by assumption).1)).mono ?_;rintro e w6 ⟨rfl,g6⟩))
     have G6:=Hid.mk' (Gr.call G.out g6)
     clear c0 c1 c2 d0 d1 d2
     cases e3:klt x.1.key y.1.key with
     | false =>
      have HR:Hid (hidB (X.take (q+1)) y.1 n=false):=by show _=_;rw [HS.out,HVV.out,e3];simp
      go_wp2_with fail
      exact ⟨⟨q+1,hql,by simp,G6,HR⟩,measM_dec _ _ hql⟩
     | true =>
      have HR:=Hid.mk' (HT.out (by rw [HVV.out,e3]) hs')
      go_wp2_with fail
      go_ret
      exact ⟨ret_bool (by rw [HYY.out,HR.out]),G6.out⟩
  ·have hqe:q=X.length:=by omega
   subst hqe
   have HR:Hid (hidB X (hat X i).1 n=false):=by have:=HN.out;rwa [List.take_length] at this
   go_wp2_with fail
   go_ret
   exact ⟨ret_bool (by rw [HR.out]),G.out⟩
end Go.Proofs.YtecnfgikbmcgoaaGreat
