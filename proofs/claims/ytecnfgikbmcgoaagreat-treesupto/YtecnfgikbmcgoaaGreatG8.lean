import Derived.Test.YtecnfgikbmcgoaaGreatG7
import Derived.Test.YtecnfgikbmcgoaaGreatG3
import Derived.Test.YtecnfgikbmcgoaaGreatG5
import Derived.Laws.IdiomRangeMap
import Derived.Test.YtecnfgikbmcgoaaGreatG0
import Derived.Shelf.SlSortCmp.WholeK
import Derived.Ground.SlsfProg
import Derived.Test.YtecnfgikbmcgoaaGreatProg
import Derived.Test.YtecnfgikbmcgoaaGreatG4
namespace Go.Proofs.YtecnfgikbmcgoaaGreat
open Go.RowKit
open Go.Maps (Keyed)
open Go.ChangeMaps (setBlock)
abbrev Hm:=Hw × Option Addr × Nat
def mv (x:Hm):Value × Value:=(pk x.1.key,.agg (hv x.1 x.2.1 x.2.2))
structure Hp (w:World) (MB:Nat) (X:List Hm) (es:Array MapEntry) (clock:Nat):Prop where
 mp:Mp Tryz.prog 112 w MB (X.map mv) es clock
 fi:∀ x∈X,FiM w x.2.1 x.1.f
theorem Hp.gr {w w':World} {MB:Nat} {X:List Hm} {es:Array MapEntry} {clock:Nat} (h:Hp w MB X es clock) (g:Gr w w'):Hp w' MB X es clock :=
 ⟨h.mp.kept (g.block MB h.mp.lt),fun x hx=>(h.fi x hx).gr g⟩
theorem Hp.ent {w:World} {MB:Nat} {X:List Hm} {es:Array MapEntry} {clock:Nat} (h:Hp w MB X es clock) {e:MapEntry} (he:e∈es.toList):∃ x∈X,e.key=pk x.1.key∧e.val = .agg (hv x.1 x.2.1 x.2.2):=by
 obtain ⟨x,hx,hxe⟩:=List.mem_map.1 (h.mp.mem he)
 injection hxe with h1 h2
 exact ⟨x,hx,h1.symm,h2.symm⟩
theorem Hp.all {w:World} {MB:Nat} {X:List Hm} {es:Array MapEntry} {clock:Nat} (h:Hp w MB X es clock) {x:Hm} (hx:x∈X):∃ e∈es.toList,e.key=pk x.1.key∧e.val = .agg (hv x.1 x.2.1 x.2.2):=by
 have:mv x∈es.toList.map (fun e=>(e.key,e.val)):=by rw [h.mp.ent];exact List.mem_map.2 ⟨x,hx,rfl⟩
 obtain ⟨e,he,hee⟩:=List.mem_map.1 this
 injection hee with h1 h2
 exact ⟨e,he,h1,h2⟩
theorem inj_map {α β : Type} {f : α → β} {l:List α} (h:(l.map f).Nodup) {x y : α} (hx:x∈l) (hy:y∈l) (e:f x=f y):x=y:=by
 induction l with
 | nil=>cases hx
 | cons a t ih =>
  simp only [List.map_cons,List.nodup_cons] at h
  rcases List.mem_cons.1 hx with rfl | hx'
  ·rcases List.mem_cons.1 hy with rfl | hy'
   ·rfl
   ·exact absurd (List.mem_map.2 ⟨y,hy',e.symm⟩) h.1
  ·rcases List.mem_cons.1 hy with rfl | hy'
   ·exact absurd (List.mem_map.2 ⟨x,hx',e⟩) h.1
   ·exact ih h.2 hx' hy'
theorem Hp.inj {w:World} {MB:Nat} {X:List Hm} {es:Array MapEntry} {clock:Nat} (h:Hp w MB X es clock) {x y:Hm} (hx:x∈X) (hy:y∈X) (e:pk x.1.key=pk y.1.key):x=y:=by
 have hd:=h.mp.nod
 rw [List.map_map] at hd
 exact inj_map hd hx hy e
theorem gr_setBlock {w w':World} {B:Nat} {o:Obj} (h:Gr w w') (hB:w.heap.size≤B):Gr w (setBlock w' B o) :=
 ⟨h.os,h.tape,h.output,by simp only [setBlock];simpa using h.size,fun k hk=>by rw [setBlock_other (by omega)];exact h.block k hk⟩
theorem next_law {w wr:World} {IT MB:Nat} {X:List Hm} {es:Array MapEntry} {clock:Nat} {seen:Array Nat} (h:Hp wr MB X es clock) (hit:wr.heap[IT]? = some (.mapIter (some MB) clock seen clock)) (hI:w.heap.size≤IT) (g:Gr w wr) :
  ((leftOf es seen).size=0 ∧ ∀ ty,(Instr.next (.pointer (some ⟨IT,0,none⟩)) false ty).run Tryz.prog wr = .ok (.tuple #[.bool false]) wr) ∨
  ∃ e∈(leftOf es seen).toList,∃ W2:World,(∀ ty,(Instr.next (.pointer (some ⟨IT,0,none⟩)) false ty).run Tryz.prog wr = .ok (.tuple #[.bool true,e.key,e.val]) W2)∧(Instr.entry (.pointer (some ⟨IT,0,none⟩))).run Tryz.prog W2 = .ok (.tuple #[e.key,e.val]) W2 ∧
   W2.heap[IT]? = some (.mapIter (some MB) clock (seen.push e.born) clock)∧Gr w W2∧(∀ k,k≠IT→W2.heap[k]? = wr.heap[k]?)∧W2.heap.size=wr.heap.size:=by
 rcases run_next_at (P:=Tryz.prog) wr 0 IT MB clock clock seen es clock hit h.mp.blk h.mp.brn (Nat.le_refl _) with ⟨h0,hr⟩ | ⟨e,he,w1,hw1,hr⟩
 ·exact Or.inl ⟨h0,fun _=>hr⟩
 ·have hne:MB≠IT:=by
   intro e'
   have:=h.mp.blk
   rw [e',hit] at this;cases this
  have hh:w1.heap=wr.heap:=by rcases hw1 with rfl | rfl <;> rfl
  have hg1:Gr w w1:=by
   rcases hw1 with rfl | rfl
   ·exact g
   ·exact g.drew
  have hit1:w1.heap[IT]? = some (.mapIter (some MB) clock seen clock):=by rw [hh];exact hit
  refine Or.inr ⟨e,he,setBlock w1 IT (.mapIter (some MB) clock (seen.push e.born) clock),fun _=>hr,?_,setBlock_get hit1,gr_setBlock hg1 hI,fun k hk=>by rw [setBlock_other hk,hh],by simp [setBlock,hh]⟩
  refine run_entry_at _ IT MB clock seen es clock e (setBlock_get hit1) ?_ (mem_left he).1 h.mp.bnd
  rw [setBlock_other hne,hh];exact h.mp.blk
set_option maxRecDepth 100000 in
set_option maxHeartbeats 4000000 in
theorem isTold_any (TB HB hoff nb hcap b MB:Nat) (n:Int) (h:Hw) (a':Option Addr) (c':Nat) (X:List Hm) (es:Array MapEntry) (clock:Nat) (m:Int) (w:World)
  (c0:w.cell? ⟨TB,0,none⟩=some (.slice (some ⟨HB,hoff,none⟩) nb hcap)) (cb:w.cell? ⟨HB,hoff+b,none⟩=some (.map (some MB))) (hb:b<nb) (hTB:TB<w.heap.size) (hHB:HB<w.heap.size)
  (hp:Hp w MB X es clock) (hh:FiM w a' h.f) (hM:Ml m w) :
  Calls Tryz.prog 81 #[.pointer (some ⟨TB,0,none⟩),.int .i64 b,.int .i64 n,.agg (hv h a' c')] w fun e w'=>e = .returned (.bool (isT cov (X.map (·.1)) n h))∧Gr w w':=by
 have HP:=Hid.mk' hp
 have HH:=Hid.mk' hh
 have HM:=Hid.mk' hM
 clear hp hh hM
 unfold hv
 have ga:Gr w (w.alloc (.cells #[.int .i64 h.key.1,.int .i64 h.key.2,.slice a' h.f.length c',.int .i64 h.fr] 121)):=(Gr.refl w).alloc _
 have hrg:=run_range_map (P:=Tryz.prog) (w.alloc (.cells #[.int .i64 h.key.1,.int .i64 h.key.2,.slice a' h.f.length c',.int .i64 h.fr] 121)) 123 112 121 MB es clock Tryz.underlying123 (HP.out.gr ga).mp.blk
 have hsz:(w.alloc (.cells #[.int .i64 h.key.1,.int .i64 h.key.2,.slice a' h.f.length c',.int .i64 h.fr] 121)).heap.size=w.heap.size+1:=by simp
 rw [hsz] at hrg
 have GA:=Hid.mk' ga
 clear ga hsz
 go_enter Tryz.func81,Tryz.ntmps81
 go_wp2_with fail
 have H0:=Hid.mk' (blk_gr ((Gr.refl _).alloc (.mapIter (some MB) clock #[] clock)) (heap_alloc_new w (.cells #[.int .i64 h.key.1,.int .i64 h.key.2,.slice a' h.f.length c',.int .i64 h.fr] 121)))
 have I0:Hid (((w.alloc (.cells #[.int .i64 h.key.1,.int .i64 h.key.2,.slice a' h.f.length c',.int .i64 h.fr] 121)).alloc (.mapIter (some MB) clock #[] clock)).heap[w.heap.size+1]? = some (.mapIter (some MB) clock #[] clock)):=by
  have:=heap_alloc_new (w.alloc (.cells #[.int .i64 h.key.1,.int .i64 h.key.2,.slice a' h.f.length c',.int .i64 h.fr] 121)) (.mapIter (some MB) clock #[] clock)
  rw [show (w.alloc (.cells #[.int .i64 h.key.1,.int .i64 h.key.2,.slice a' h.f.length c',.int .i64 h.fr] 121)).heap.size=w.heap.size+1 by simp] at this
  exact this
 have G0:=Hid.mk' (GA.out.alloc (.mapIter (some MB) clock #[] clock))
 clear hrg GA c0 cb
 go_loopw [] (fun wr=>∃ seen:Array Nat,Hid (wr.heap[w.heap.size+1]? = some (.mapIter (some MB) clock seen clock))∧Hid (Gr w wr)∧Hid (wr.heap[w.heap.size]? = some (.cells #[.int .i64 h.key.1,.int .i64 h.key.2,.slice a' h.f.length c',.int .i64 h.fr] 121 (0,0))) ∧
  Hid (∀ e∈es.toList,seen.contains e.born=true → ∀ x∈X,e.key=pk x.1.key→x.1.fr≠n→hides cov x.1 h=false)) (fun wr=>(leftOf es (wr.iterSeen (w.heap.size+1))).size)
 case atStart=>exact ⟨#[],I0,G0,H0,fun e _ hc=>by simp at hc⟩
 case round =>
  clear I0 G0 H0
  obtain ⟨seen,IT,G,HB1,NO⟩:=hrel
  have hms:leftOf es (wr.iterSeen (w.heap.size+1))=leftOf es seen:=by unfold World.iterSeen;rw [IT.out]
  have HMS:=Hid.mk' hms
  clear hms
  rcases next_law (HP.out.gr G.out) IT.out (Nat.le_succ _) G.out with ⟨h0,hnx⟩ | ⟨e,he,W2,hnx,hen,hit2,g2,hoth,hsz2⟩
  ·have HT:Hid (isT cov (X.map (·.1)) n h=true):=by
    show _=_
    rw [isT_iff]
    intro g hg hgn
    obtain ⟨x,hx,rfl⟩:=List.mem_map.1 hg
    obtain ⟨e,he,h1,_⟩:=HP.out.all hx
    exact NO.out e he (all_seen es seen h0 e he) x hx h1 hgn
   clear h0
   go_wp2_with fail
   go_ret
   exact ⟨by rw [HT.out];rfl,G.out⟩
  ·obtain ⟨x,hx,hk,hv'⟩:=HP.out.ent (mem_left he).1
   rw [hv'] at hnx hen
   rw [hk] at hnx hen
   unfold hv pk at hnx hen
   have HE:=Hid.mk' he
   have HK:=Hid.mk' hk
   have HX:=Hid.mk' hx
   have IT2:=Hid.mk' hit2
   have G2:=Hid.mk' g2
   have B2:Hid (W2.heap[w.heap.size]? = some (.cells #[.int .i64 h.key.1,.int .i64 h.key.2,.slice a' h.f.length c',.int .i64 h.fr] 121 (0,0))):=(hoth _ (by omega)).trans HB1.out
   have F2:=Hid.mk' ((HP.out.fi x hx).gr g2)
   have HH2:=Hid.mk' (HH.out.gr g2)
   have hW2:w.heap.size+2≤W2.heap.size:=blk_lt IT2.out
   clear he hk hx hit2 g2 hoth hsz2 hv' G IT HB1
   have gx:Gr W2 (W2.alloc (.cells #[.int .i64 x.1.key.1,.int .i64 x.1.key.2,.slice x.2.1 x.1.f.length x.2.2,.int .i64 x.1.fr] 121)):=(Gr.refl W2).alloc _
   have GX:=Hid.mk' gx
   clear gx
   have b0:W2.cell? ⟨w.heap.size,0,none⟩=some (.int .i64 h.key.1):=by rw [cell_of_row _ _ _ _ _ _ B2.out];rfl
   have b1:W2.cell? ⟨w.heap.size,1,none⟩=some (.int .i64 h.key.2):=by rw [cell_of_row _ _ _ _ _ _ B2.out];rfl
   have b2:W2.cell? ⟨w.heap.size,2,none⟩=some (.slice a' h.f.length c'):=by rw [cell_of_row _ _ _ _ _ _ B2.out];rfl
   have b3:W2.cell? ⟨w.heap.size,3,none⟩=some (.int .i64 h.fr):=by rw [cell_of_row _ _ _ _ _ _ B2.out];rfl
   have hlt2:w.heap.size<W2.heap.size:=by omega
   have NXT:Hid ((x.1.fr≠n→hides cov x.1 h=false) → ∀ w',Gr W2 w'→(∃ seen:Array Nat,Hid (w'.heap[w.heap.size+1]? = some (.mapIter (some MB) clock seen clock))∧Hid (Gr w w')∧Hid (w'.heap[w.heap.size]? = some (.cells #[.int .i64 h.key.1,.int .i64 h.key.2,.slice a' h.f.length c',.int .i64 h.fr] 121 (0,0))) ∧
     Hid (∀ e∈es.toList,seen.contains e.born=true → ∀ x∈X,e.key=pk x.1.key→x.1.fr≠n→hides cov x.1 h=false))∧(leftOf es (w'.iterSeen (w.heap.size+1))).size<(leftOf es (wr.iterSeen (w.heap.size+1))).size):=by
    intro hno w' g'
    have hi:w'.heap[w.heap.size+1]? = some (.mapIter (some MB) clock (seen.push e.born) clock):=(g'.block _ (by omega)).trans IT2.out
    refine ⟨⟨seen.push e.born,hi,Gr.call G2.out g',blk_gr g' B2.out,?_⟩,?_⟩
    ·intro e2 he2 hc y hy hky hyn
     rw [contains_push] at hc
     rcases Bool.or_eq_true _ _ ▸ hc with h1 | h1
     ·exact NO.out e2 he2 h1 y hy hky hyn
     ·have hee:e2=e:=born_inj HP.out.mp.bnd he2 (mem_left HE.out).1 (beq_iff_eq.1 h1)
      subst hee
      have hkk:pk y.1.key=pk x.1.key:=hky.symm.trans HK.out
      have hyx:y=x:=HP.out.inj hy HX.out hkk
      subst hyx
      exact hno hyn
    ·rw [HMS.out]
     unfold World.iterSeen
     rw [hi]
     exact left_shrinks es seen e HE.out
   by_cases hn:x.1.fr=n
   ·have hn':(x.1.fr==n)=true:=by simpa using hn
    have N1:=Hid.mk' (NXT.out (fun h=>absurd hn h) _ GX.out)
    clear NXT
    rw [hn] at N1
    go_wp2_with fail
    exact N1.out
   ·have hn':(x.1.fr==n)=false:=by simpa using hn
    go_wp2_with fail
    refine (hides_any x.1 h x.2.1 a' x.2.2 c' m _ (F2.out.gr GX.out) (HH2.out.gr GX.out) ((Gr.call G2.out GX.out).ml HM.out)).mono ?_
    cases hhd:hides cov x.1 h with
    | true =>
     rintro e' w3 ⟨rfl,g3⟩
     have HT:Hid (isT cov (X.map (·.1)) n h=false):=by
      show _=_
      cases ht:isT cov (X.map (·.1)) n h with
      | false=>rfl
      | true =>
       have:=isT_iff.1 ht x.1 (List.mem_map.2 ⟨x,HX.out,rfl⟩) hn
       rw [hhd] at this;cases this
     have G3:=Hid.mk' (Gr.call (Gr.call G2.out GX.out) g3)
     clear NXT g3
     go_wp2_with fail
     go_ret
     exact ⟨by rw [HT.out];rfl,G3.out⟩
    | false =>
     rintro e' w3 ⟨rfl,g3⟩
     have N1:=Hid.mk' (NXT.out (fun _=>hhd) _ (Gr.call GX.out g3))
     clear NXT g3
     go_wp2_with fail
     exact N1.out
end Go.Proofs.YtecnfgikbmcgoaaGreat
namespace Go.Proofs.YtecnfgikbmcgoaaGreat
open Go.RowKit Go.Sort Go.Shelf
section
variable {α : Type}
theorem flat_get {enc : α → List Value} {k:Nat} (hk:∀ x,(enc x).length=k) (h0:0<k):∀ (l:List α) (t:Nat),(l.flatMap enc)[t]? = (l[t / k]?).bind fun x=>(enc x)[t % k]?
 | [],t=>by simp
 | a::r,t=>by
  rw [List.flatMap_cons]
  by_cases ht:t<k
  ·rw [List.getElem?_append_left (by rw [hk];exact ht),Nat.div_eq_of_lt ht,Nat.mod_eq_of_lt ht];rfl
  ·rw [List.getElem?_append_right (by rw [hk];omega),hk,flat_get hk h0 r (t - k)]
   have e1:t / k=(t - k) / k+1:=by
    have:=Nat.add_div_right (t - k) h0
    rw [Nat.sub_add_cancel (by omega)] at this;exact this
   have e2:t % k=(t - k) % k:=by
    have:=Nat.add_mod_right (t - k) k
    rw [Nat.sub_add_cancel (by omega)] at this;exact this
   rw [e1,e2,List.getElem?_cons_succ]
theorem flat_len {enc : α → List Value} {k:Nat} (hk:∀ x,(enc x).length=k):∀ l:List α, (l.flatMap enc).length=l.length*k
 | []=>by simp
 | a::r=>by rw [List.flatMap_cons,List.length_append,hk,flat_len hk r,List.length_cons,Nat.succ_mul];omega
variable [Inhabited α]
theorem flatK_list {enc : α → List Value} {k:Nat} (hk:∀ x,(enc x).length=k) (h0:0<k) (d:Array α):(flatK enc k d).toList=d.toList.flatMap enc:=by
 apply List.ext_getElem?
 intro t
 rw [flat_get hk h0]
 by_cases ht:t<d.size*k
 ·have h1:t / k<d.size:=(Nat.div_lt_iff_lt_mul h0).2 ht
  have h2:t % k<k:=Nat.mod_lt _ h0
  have h3:t % k<(enc d[t / k]).length:=by rw [hk];exact h2
  have h4:d.toList[t / k]? = some d[t / k]:=by rw [Array.getElem?_toList,Array.getElem?_eq_getElem h1]
  rw [h4,Array.getElem?_toList]
  simp only [Option.bind_some,flatK,Array.getElem?_map]
  rw [Array.getElem?_range,if_pos ht,List.getElem?_eq_getElem h3]
  simp only [Option.map_some]
  rw [getElem!_pos d (t / k) h1,getElem!_pos (enc d[t / k]) (t % k) h3]
 ·have h1:¬ t / k<d.size:=fun h=>ht ((Nat.div_lt_iff_lt_mul h0).1 h)
  have h4:d.toList[t / k]? = none:=by rw [Array.getElem?_toList];exact Array.getElem?_eq_none (by omega)
  rw [h4,Array.getElem?_toList,Array.getElem?_eq_none (by rw [size_flatK];omega)];rfl
theorem holds_of {enc : α → List Value} {k:Nat} (hk:∀ x,(enc x).length=k) (h0:0<k) {w:World} {base g cap:Nat} {T:TypeId} {d:List α} (h:w.ownsRow base T k (.slice (some ⟨g,0,none⟩) d.length cap) d.length (d.flatMap enc)):HoldsK enc k w g 0 d.toArray:=by
 intro j hj
 rw [size_flatK] at hj
 have hj':j<d.length*k:=by simpa using hj
 have e:(flatK enc k d.toArray)[j]? = (d.flatMap enc)[j]? := by rw [← Array.getElem?_toList,flatK_list hk h0]
 refine ⟨?_,World.ownsRow.frozenAt h _⟩
 rw [Nat.zero_add,World.ownsRow.cellAt h j hj', ← e]
 rw [Array.getElem?_eq_getElem (by rw [size_flatK];simpa using hj'),getElem!_pos _ _ (by rw [size_flatK];simpa using hj')]
 rfl
theorem take_putCells {F cur:Array Value} (h:F.size≤cur.size):(putCells id 0 F cur).toList.take F.size=F.toList:=by
 apply List.ext_getElem
 ·simp [putCells];omega
 ·intro i h1 h2
  simp only [List.getElem_take,Array.getElem_toList,putCells,Array.getElem_mapIdx]
  have hi:i<F.size:=by simpa using h2
  rw [if_pos ⟨Nat.zero_le _,by omega⟩,Nat.sub_zero,getElem!_pos F i hi];rfl
theorem sorted_row {enc : α → List Value} {k:Nat} (hk:∀ x,(enc x).length=k) (h0:0<k) {w0 w:World} {g cap m:Nat} {T:TypeId} {d d':List α} {os:Array Obj} (hl:d'.length=d.length) (hg:Gr w0 w) (h:w.ownsRow w0.heap.size T k (.slice (some ⟨g,0,none⟩) d.length cap) d.length (d.flatMap enc)) :
  (sortWorldK enc k w g 0 m d'.toArray os).ownsRow w0.heap.size T k (.slice (some ⟨g,0,none⟩) d'.length cap) d'.length (d'.flatMap enc)∧Gr w0 (sortWorldK enc k w g 0 m d'.toArray os):=by
 rcases h.2 with ⟨hv,_⟩ | ⟨b,cap',cur,hv,hb,hh,hnc,hcm,hcs,htk⟩
 ·cases hv
 simp only [Value.slice.injEq,Option.some.injEq,Addr.mk.injEq,and_true,true_and] at hv
 obtain ⟨rfl,rfl⟩:=hv
 have hglt:g<w.heap.size:=blk_lt hh
 have hheap:(sortWorldK enc k w g 0 m d'.toArray os).heap=(w.heap.modify g (onCells (putCells id 0 (flatK enc k d'.toArray))))++os:=rfl
 have hsz:(flatK enc k d'.toArray).size=d'.length*k:=by simp
 have hle:(flatK enc k d'.toArray).size≤cur.size:=by rw [hsz,hcs,hl];exact Nat.mul_le_mul_right _ hnc
 constructor
 ·refine ⟨flat_len hk d',Or.inr ⟨g,cap,putCells id 0 (flatK enc k d'.toArray) cur,rfl,hb,?_,by omega,hcm,?_,?_⟩⟩
  ·rw [hheap,Array.getElem?_append_left (by simpa using hglt),Array.getElem?_modify,if_pos rfl,hh];rfl
  ·simp [putCells,hcs]
  ·rw [← hsz,take_putCells hle,flatK_list hk h0]
 ·refine ⟨hg.os,hg.tape,hg.output,?_,fun q hq=>?_⟩
  ·rw [hheap];simp;exact Nat.le_trans hg.size (Nat.le_add_right _ _)
  ·rw [hheap,Array.getElem?_append_left (by simpa using hg.lt hq),Array.getElem?_modify,if_neg (by omega)]
   exact hg.block q hq
end
end Go.Proofs.YtecnfgikbmcgoaaGreat
namespace Go.Proofs
open Go.Shelf
def Tryz.sortH_ren : Go.Shelf.Ren := ⟨fun | 6 => 113 | 15 => 109 | 14 => 138 | 28 => 135 | 29 => 136 | 20 => 148 | 21 => 149 | 22 => 150 | 23 => 151 | 24 => 152 | 25 => 153 | 26 => 154 | 27 => 155 | 46 => 166 | 47 => 144 | 48 => 145 | 49 => 167 | 50 => 168 | 57 => 175 | n => n, fun | 22 => 177 | 24 => 121 | 25 => 225 | 3 => 3 | 39 => 221 | 0 => 0 | 53 => 245 | 55 => 247 | 4 => 4 | 46 => 238 | 45 => 237 | 50 => 242 | 5 => 5 | 9 => 9 | 66 => 254 | 70 => 258 | 76 => 268 | 77 => 269 | n => n, fun | n => n⟩
theorem Tryz.sortH : Go.Proofs.SlLaysF0.n6 Tryz.prog Tryz.sortH_ren := {
  mixed := by kernel_rfl
  f6 := ⟨Tryz.f113.name, by decide, Tryz.func113.trans (congrArg some (by kernel_rfl))⟩
  f14 := ⟨Tryz.f138.name, by decide, Tryz.func138.trans (congrArg some (by kernel_rfl))⟩
  f15 := Tryz.func109.trans (congrArg some (by kernel_rfl))
  f20 := ⟨Tryz.f148.name, by decide, Tryz.func148.trans (congrArg some (by kernel_rfl))⟩
  f21 := ⟨Tryz.f149.name, by decide, Tryz.func149.trans (congrArg some (by kernel_rfl))⟩
  f22 := ⟨Tryz.f150.name, by decide, Tryz.func150.trans (congrArg some (by kernel_rfl))⟩
  f23 := ⟨Tryz.f151.name, by decide, Tryz.func151.trans (congrArg some (by kernel_rfl))⟩
  f24 := ⟨Tryz.f152.name, by decide, Tryz.func152.trans (congrArg some (by kernel_rfl))⟩
  f25 := ⟨Tryz.f153.name, by decide, Tryz.func153.trans (congrArg some (by kernel_rfl))⟩
  f26 := ⟨Tryz.f154.name, by decide, Tryz.func154.trans (congrArg some (by kernel_rfl))⟩
  f27 := ⟨Tryz.f155.name, by decide, Tryz.func155.trans (congrArg some (by kernel_rfl))⟩
  f28 := Tryz.func135.trans (congrArg some (by kernel_rfl))
  f29 := Tryz.func136.trans (congrArg some (by kernel_rfl))
  f46 := ⟨Tryz.f166.name, by decide, Tryz.func166.trans (congrArg some (by kernel_rfl))⟩
  f47 := Tryz.func144.trans (congrArg some (by kernel_rfl))
  f48 := Tryz.func145.trans (congrArg some (by kernel_rfl))
  f49 := ⟨Tryz.f167.name, by decide, Tryz.func167.trans (congrArg some (by kernel_rfl))⟩
  f50 := ⟨Tryz.f168.name, by decide, Tryz.func168.trans (congrArg some (by kernel_rfl))⟩
  f57 := ⟨Tryz.f175.name, by decide, Tryz.func175.trans (congrArg some (by kernel_rfl))⟩
  t0 := Tryz.underlying0
  a0 := Tryz.isAgg0
  z0 := Tryz.sizeOf0
  v0 := Tryz.zeroValue0
  t3 := Tryz.underlying3
  a3 := Tryz.isAgg3
  z3 := Tryz.sizeOf3
  v3 := Tryz.zeroValue3
  t4 := Tryz.underlying4
  a4 := Tryz.isAgg4
  z4 := Tryz.sizeOf4
  v4 := Tryz.zeroValue4
  t5 := Tryz.underlying5
  a5 := Tryz.isAgg5
  z5 := Tryz.sizeOf5
  v5 := Tryz.zeroValue5
  t9 := Tryz.underlying9
  a9 := Tryz.isAgg9
  z9 := Tryz.sizeOf9
  v9 := Tryz.zeroValue9
  t22 := Tryz.underlying177
  a22 := Tryz.isAgg177
  z22 := Tryz.sizeOf177
  v22 := Tryz.zeroValue177
  t25 := Tryz.underlying225
  a25 := Tryz.isAgg225
  z25 := Tryz.sizeOf225
  v25 := Tryz.zeroValue225
  t39 := Tryz.underlying221
  a39 := Tryz.isAgg221
  z39 := Tryz.sizeOf221
  v39 := Tryz.zeroValue221
  t45 := Tryz.underlying237
  a45 := Tryz.isAgg237
  z45 := Tryz.sizeOf237
  v45 := Tryz.zeroValue237
  t46 := Tryz.underlying238
  a46 := Tryz.isAgg238
  z46 := Tryz.sizeOf238
  v46 := Tryz.zeroValue238
  t50 := Tryz.underlying242
  a50 := Tryz.isAgg242
  z50 := Tryz.sizeOf242
  v50 := Tryz.zeroValue242
  t53 := Tryz.underlying245
  a53 := Tryz.isAgg245
  z53 := Tryz.sizeOf245
  v53 := Tryz.zeroValue245
  t55 := Tryz.underlying247
  a55 := Tryz.isAgg247
  z55 := Tryz.sizeOf247
  v55 := Tryz.zeroValue247
  t66 := Tryz.underlying254
  a66 := Tryz.isAgg254
  z66 := Tryz.sizeOf254
  v66 := Tryz.zeroValue254
  t70 := Tryz.underlying258
  a70 := Tryz.isAgg258
  z70 := Tryz.sizeOf258
  v70 := Tryz.zeroValue258
  t76 := Tryz.underlying268
  a76 := Tryz.isAgg268
  z76 := Tryz.sizeOf268
  v76 := Tryz.zeroValue268
  t77 := Tryz.underlying269
  a77 := Tryz.isAgg269
  z77 := Tryz.sizeOf269
  v77 := Tryz.zeroValue269 }
def Tryz.sortK_ren : Go.Shelf.Ren := ⟨fun | 6 => 77 | 15 => 109 | 14 => 108 | 28 => 135 | 29 => 136 | 20 => 127 | 21 => 128 | 22 => 129 | 23 => 130 | 24 => 131 | 25 => 132 | 26 => 133 | 27 => 134 | 46 => 143 | 47 => 144 | 48 => 145 | 49 => 146 | 50 => 147 | 57 => 165 | n => n, fun | 22 => 41 | 24 => 112 | 25 => 176 | 3 => 3 | 39 => 221 | 0 => 0 | 53 => 245 | 55 => 247 | 4 => 4 | 46 => 238 | 45 => 237 | 50 => 242 | 5 => 5 | 9 => 9 | 66 => 254 | 70 => 258 | 76 => 268 | 77 => 269 | n => n, fun | n => n⟩
theorem Tryz.sortK : Go.Proofs.SlLaysF0.n6 Tryz.prog Tryz.sortK_ren := {
  mixed := by kernel_rfl
  f6 := ⟨Tryz.f77.name, by decide, Tryz.func77.trans (congrArg some (by kernel_rfl))⟩
  f14 := ⟨Tryz.f108.name, by decide, Tryz.func108.trans (congrArg some (by kernel_rfl))⟩
  f15 := Tryz.func109.trans (congrArg some (by kernel_rfl))
  f20 := ⟨Tryz.f127.name, by decide, Tryz.func127.trans (congrArg some (by kernel_rfl))⟩
  f21 := ⟨Tryz.f128.name, by decide, Tryz.func128.trans (congrArg some (by kernel_rfl))⟩
  f22 := ⟨Tryz.f129.name, by decide, Tryz.func129.trans (congrArg some (by kernel_rfl))⟩
  f23 := ⟨Tryz.f130.name, by decide, Tryz.func130.trans (congrArg some (by kernel_rfl))⟩
  f24 := ⟨Tryz.f131.name, by decide, Tryz.func131.trans (congrArg some (by kernel_rfl))⟩
  f25 := ⟨Tryz.f132.name, by decide, Tryz.func132.trans (congrArg some (by kernel_rfl))⟩
  f26 := ⟨Tryz.f133.name, by decide, Tryz.func133.trans (congrArg some (by kernel_rfl))⟩
  f27 := ⟨Tryz.f134.name, by decide, Tryz.func134.trans (congrArg some (by kernel_rfl))⟩
  f28 := Tryz.func135.trans (congrArg some (by kernel_rfl))
  f29 := Tryz.func136.trans (congrArg some (by kernel_rfl))
  f46 := ⟨Tryz.f143.name, by decide, Tryz.func143.trans (congrArg some (by kernel_rfl))⟩
  f47 := Tryz.func144.trans (congrArg some (by kernel_rfl))
  f48 := Tryz.func145.trans (congrArg some (by kernel_rfl))
  f49 := ⟨Tryz.f146.name, by decide, Tryz.func146.trans (congrArg some (by kernel_rfl))⟩
  f50 := ⟨Tryz.f147.name, by decide, Tryz.func147.trans (congrArg some (by kernel_rfl))⟩
  f57 := ⟨Tryz.f165.name, by decide, Tryz.func165.trans (congrArg some (by kernel_rfl))⟩
  t0 := Tryz.underlying0
  a0 := Tryz.isAgg0
  z0 := Tryz.sizeOf0
  v0 := Tryz.zeroValue0
  t3 := Tryz.underlying3
  a3 := Tryz.isAgg3
  z3 := Tryz.sizeOf3
  v3 := Tryz.zeroValue3
  t4 := Tryz.underlying4
  a4 := Tryz.isAgg4
  z4 := Tryz.sizeOf4
  v4 := Tryz.zeroValue4
  t5 := Tryz.underlying5
  a5 := Tryz.isAgg5
  z5 := Tryz.sizeOf5
  v5 := Tryz.zeroValue5
  t9 := Tryz.underlying9
  a9 := Tryz.isAgg9
  z9 := Tryz.sizeOf9
  v9 := Tryz.zeroValue9
  t22 := Tryz.underlying41
  a22 := Tryz.isAgg41
  z22 := Tryz.sizeOf41
  v22 := Tryz.zeroValue41
  t25 := Tryz.underlying176
  a25 := Tryz.isAgg176
  z25 := Tryz.sizeOf176
  v25 := Tryz.zeroValue176
  t39 := Tryz.underlying221
  a39 := Tryz.isAgg221
  z39 := Tryz.sizeOf221
  v39 := Tryz.zeroValue221
  t45 := Tryz.underlying237
  a45 := Tryz.isAgg237
  z45 := Tryz.sizeOf237
  v45 := Tryz.zeroValue237
  t46 := Tryz.underlying238
  a46 := Tryz.isAgg238
  z46 := Tryz.sizeOf238
  v46 := Tryz.zeroValue238
  t50 := Tryz.underlying242
  a50 := Tryz.isAgg242
  z50 := Tryz.sizeOf242
  v50 := Tryz.zeroValue242
  t53 := Tryz.underlying245
  a53 := Tryz.isAgg245
  z53 := Tryz.sizeOf245
  v53 := Tryz.zeroValue245
  t55 := Tryz.underlying247
  a55 := Tryz.isAgg247
  z55 := Tryz.sizeOf247
  v55 := Tryz.zeroValue247
  t66 := Tryz.underlying254
  a66 := Tryz.isAgg254
  z66 := Tryz.sizeOf254
  v66 := Tryz.zeroValue254
  t70 := Tryz.underlying258
  a70 := Tryz.isAgg258
  z70 := Tryz.sizeOf258
  v70 := Tryz.zeroValue258
  t76 := Tryz.underlying268
  a76 := Tryz.isAgg268
  z76 := Tryz.sizeOf268
  v76 := Tryz.zeroValue268
  t77 := Tryz.underlying269
  a77 := Tryz.isAgg269
  z77 := Tryz.sizeOf269
  v77 := Tryz.zeroValue269 }
end Go.Proofs
namespace Go.Proofs.YtecnfgikbmcgoaaGreat
open Go.RowKit Go.Sort Go.Shelf Go.Lib
def kcell (k:Ky):List Value:=[.int .i64 k.1,.int .i64 k.2]
def kcells (l:List Ky):List Value:=l.flatMap kcell
theorem kcells_snoc (l:List Ky) (k:Ky):kcells (l++[k])=kcells l++[.int .i64 k.1,.int .i64 k.2]:=by simp [kcells,kcell]
theorem ltK (x y:Ky):ltOf cK x y=klt x y:=by unfold ltOf;exact cK_lt x y
theorem swoK:SWO (ltOf cK) where
 irrefl x:=by rw [ltK];exact klt_irr x
 trans x y z h1 h2:=by rw [ltK] at *;exact klt_trans h1 h2
 ntrans x y z h1 h2:=by
  rw [ltK] at *
  cases h:klt x z with
  | false=>rfl
  | true =>
   rcases klt_tri x y with h3 | h3 | h3
   ·rw [h3] at h1;cases h1
   ·subst h3;rw [h] at h2;cases h2
   ·rw [klt_trans h3 h] at h2;cases h2
theorem cmpK (blk off size:Nat) (w:World):CmpLays Tryz.prog 78 #[] kcell 2 cK blk off size w :=
 fun _ _ _ _ x y=>compareKeys_x x y _
set_option maxHeartbeats 1000000 in
theorem sortKeys_some (L:List Ky) (g cap:Nat) (w0 w:World) (hn:L.length<4611686018427387904) (hg:Gr w0 w) (h:w.ownsRow w0.heap.size 112 2 (.slice (some ⟨g,0,none⟩) L.length cap) L.length (kcells L)) :
  Calls Tryz.prog 77 #[.slice (some ⟨g,0,none⟩) L.length cap,.func (.func 78) #[] #[]] w fun e w'=>e = .returned (.tuple #[]) ∧ ∃ L',L'.Perm L∧L'.Pairwise (fun x y=>klt y x=false)∧w'.ownsRow w0.heap.size 112 2 (.slice (some ⟨g,0,none⟩) L'.length cap) L'.length (kcells L')∧Gr w0 w':=by
 have eg:∀ args w,(callFunc 78 args).run Tryz.prog w = .ok (.enter 78 args) w:=enters_of Tryz.func78 (by kernel_rfl) rfl
 have hlt:g<w.heap.size:=by
  rcases h.2 with ⟨hv,_⟩ | ⟨b,cap',cur,hv,hb,hh,_⟩
  ·cases hv
  ·simp only [Value.slice.injEq,Option.some.injEq,Addr.mk.injEq,and_true,true_and] at hv
   rw [hv.1];exact blk_lt hh
 have hcon:=AnyQ.slices_SortFunc Tryz.sortK 2 Tryz.isAgg112 Tryz.sizeOf112 kcell (fun _=>rfl) (fun x v hv=>by simp [kcell] at hv;rcases hv with rfl | rfl <;> rfl) cK swoK 78 #[] g 0 cap L.toArray w eg (cmpK g 0 L.toArray.size w) (holds_of (enc:=kcell) (k:=2) (fun _=>rfl) (by decide) h) hlt (by simpa using hn)
 simp only [List.size_toArray] at hcon
 refine hcon.mono ?_
 rintro e w' ⟨rfl,d',m,os,hp,hs,rfl⟩
 have hsz:d'.size=L.length:=by have:=hp.1;simpa using this
 have hd:d'=d'.toList.toArray:=by simp
 have hperm:d'.toList.Perm L:=by
  have h2:=hp.2.2
  rw [← hsz] at h2
  have e1:d'.extract 0 d'.size=d':=Array.extract_size
  have e2:L.toArray.extract 0 d'.size=L.toArray:=by rw [hsz];simp
  rw [e1,e2] at h2
  simpa using h2
 refine ⟨rfl,d'.toList,hperm,?_,?_⟩
 ·rw [List.pairwise_iff_getElem]
  intro i j hi hj hij
  have:=hs i j (Nat.zero_le _) hij (by simpa [hsz] using hj)
  rw [ltK,getElem!_pos d' j (by simpa using hj),getElem!_pos d' i (by simpa using hi)] at this
  simpa using this
 ·have:=sorted_row (enc:=kcell) (k:=2) (fun _=>rfl) (by decide) (m:=m) (os:=os) (d:=L) (d':=d'.toList) (by simpa using hsz) hg h
  rw [← hd] at this
  exact this
set_option maxRecDepth 100000 in
set_option maxHeartbeats 1000000 in
theorem insK0 (ad:Option Addr) (cap:Nat) (w:World) :
  Calls Tryz.prog 127 #[.slice ad 0 cap,.int .i64 0,.int .i64 0,.func (.func 78) #[] #[]] w fun e w'=>e = .returned (.tuple #[])∧Gr w w':=by
 go_enter Tryz.func127,Tryz.ntmps127
 go_wp2_with fail
 refine wp_loop_rounds 1 ?_
 rw [rounds_succ]
 go_wp2_with fail
 go_end0
 exact ⟨rfl,Gr.refl _⟩
set_option maxRecDepth 100000 in
set_option maxHeartbeats 1000000 in
theorem pdqK0 (ad:Option Addr) (cap:Nat) (l:Int) (w:World) :
  Calls Tryz.prog 108 #[.slice ad 0 cap,.int .i64 0,.int .i64 0,.int .i64 l,.func (.func 78) #[] #[]] w fun e w'=>e = .returned (.tuple #[])∧Gr w w':=by
 go_enter Tryz.func108,Tryz.ntmps108
 go_wp2_with fail
 refine wp_loop_rounds 1 ?_
 rw [rounds_succ]
 go_wp2_with fail
 refine (insK0 ad cap w).mono ?_
 rintro e w1 ⟨rfl,g1⟩
 go_wp2_with fail
 exact bodyPost_ret (v:=.tuple #[]) (by simp [results,Tryz.results108,go_sem]) rfl ⟨rfl,g1⟩
set_option maxRecDepth 100000 in
set_option maxHeartbeats 1000000 in
theorem sortKeys_none (ad:Option Addr) (cap:Nat) (w:World) :
  Calls Tryz.prog 77 #[.slice ad 0 cap,.func (.func 78) #[] #[]] w fun e w'=>e = .returned (.tuple #[])∧Gr w w':=by
 go_enter Tryz.func77,Tryz.ntmps77
 go_wp2_with fail
 refine (Tryz.bits_Len 0 w (by decide) (by decide)).mono ?_
 rintro e w1 ⟨rfl,hw⟩
 have hw':=hw.symm
 clear hw
 subst hw'
 go_wp2_with fail
 refine (pdqK0 ad cap _ w).mono ?_
 rintro e w1 ⟨rfl,g1⟩
 go_wp2_with fail
 go_end0
 exact ⟨rfl,g1⟩
end Go.Proofs.YtecnfgikbmcgoaaGreat
namespace Go.Proofs.YtecnfgikbmcgoaaGreat
open Go.RowKit
open Go.Maps (Keyed)
open Go.ChangeMaps (setBlock)
theorem Tryz.infoKey:(Tryz.prog.info? 112).map (fun i=>(i.zero,i.size,i.bytes))=some (some (.agg #[.int .i64 0,.int .i64 0]),2,16):=by kernel_rfl
theorem new_atK {W:World} {o:Obj} {B:Nat} (h:W.heap.size=B):(W.alloc o).heap[B]? = some o:=by subst h;exact heap_alloc_new W o
theorem pk_inj {a b:Ky} (h:pk a=pk b):a=b:=by
 obtain ⟨a1,a2⟩:=a
 obtain ⟨b1,b2⟩:=b
 simp [pk] at h
 rw [h.1,h.2]
structure Kl (X:List Hm) (es:Array MapEntry) (from_:Int) (seen:Array Nat) (L:List Ky):Prop where
 mem:∀ k,k∈L ↔ ∃ e∈es.toList,seen.contains e.born=true ∧ ∃ x∈X,e.key=pk x.1.key∧x.1.fr=from_∧x.1.key=k
 nd:L.Pairwise fun x y=>x≠y
theorem Kl.len {X:List Hm} {es:Array MapEntry} {from_:Int} {seen:Array Nat} {L:List Ky} (h:Kl X es from_ seen L):L.length≤X.length:=by
 have:=keys_le L (X.map fun x=>x.1.key) h.nd (fun k hk=>by
  obtain ⟨_,_,_,x,hx,_,_,rfl⟩:=(h.mem k).1 hk
  exact List.mem_map.2 ⟨x,hx,rfl⟩)
 simpa using this
theorem Kl.init (X:List Hm) (es:Array MapEntry) (from_:Int):Kl X es from_ #[] [] :=
 ⟨fun k=>by simp,List.Pairwise.nil⟩
theorem Kl.skip {w:World} {MB clock:Nat} {X:List Hm} {es:Array MapEntry} {from_:Int} {seen:Array Nat} {L:List Ky} (h:Kl X es from_ seen L) (hp:Hp w MB X es clock) {e:MapEntry} (he:e∈es.toList) {x:Hm} (hx:x∈X) (hk:e.key=pk x.1.key) (hf:x.1.fr≠from_):Kl X es from_ (seen.push e.born) L:=by
 refine ⟨fun k=>?_,h.nd⟩
 rw [h.mem k]
 constructor
 ·rintro ⟨e',h1,h2,h3⟩
  exact ⟨e',h1,by rw [contains_push,h2];rfl,h3⟩
 ·rintro ⟨e',h1,h2,y,hy,h4,h5,h6⟩
  rw [contains_push] at h2
  rcases Bool.or_eq_true _ _ ▸ h2 with h2 | h2
  ·exact ⟨e',h1,h2,y,hy,h4,h5,h6⟩
  ·have hee:e'=e:=born_inj hp.mp.bnd h1 he (beq_iff_eq.1 h2)
   subst hee
   have:y=x:=hp.inj hy hx (h4.symm.trans hk)
   subst this
   exact absurd h5 hf
theorem Kl.take {w:World} {MB clock:Nat} {X:List Hm} {es:Array MapEntry} {from_:Int} {seen:Array Nat} {L:List Ky} (h:Kl X es from_ seen L) (hp:Hp w MB X es clock) {e:MapEntry} (he:e∈es.toList) (hns:seen.contains e.born=false) {x:Hm} (hx:x∈X) (hk:e.key=pk x.1.key) (hf:x.1.fr=from_):Kl X es from_ (seen.push e.born) (L++[x.1.key]):=by
 refine ⟨fun k=>?_,?_⟩
 ·rw [List.mem_append,h.mem k,List.mem_singleton]
  constructor
  ·rintro (⟨e',h1,h2,h3⟩ | rfl)
   ·exact ⟨e',h1,by rw [contains_push,h2];rfl,h3⟩
   ·exact ⟨e,he,by rw [contains_push];simp,x,hx,hk,hf,rfl⟩
  ·rintro ⟨e',h1,h2,y,hy,h4,h5,h6⟩
   rw [contains_push] at h2
   rcases Bool.or_eq_true _ _ ▸ h2 with h2 | h2
   ·exact Or.inl ⟨e',h1,h2,y,hy,h4,h5,h6⟩
   ·have hee:e'=e:=born_inj hp.mp.bnd h1 he (beq_iff_eq.1 h2)
    subst hee
    have:y=x:=hp.inj hy hx (h4.symm.trans hk)
    subst this
    exact Or.inr h6.symm
 ·rw [List.pairwise_append]
  refine ⟨h.nd,List.pairwise_singleton _ _,fun a ha b hb=>?_⟩
  simp only [List.mem_singleton] at hb
  subst hb
  intro hab
  obtain ⟨e',h1,h2,y,hy,h4,h5,h6⟩:=(h.mem a).1 ha
  have:y=x:=hp.inj hy hx (by rw [h6,hab])
  subst this
  have hkk:e'.key=e.key:=h4.trans hk.symm
  have hee:e'=e:=by
   have hd:=hp.mp.nod
   rw [← hp.mp.ent,List.map_map] at hd
   exact inj_map hd h1 he hkk
  subst hee
  rw [h2] at hns;cases hns
theorem Kl.all {X:List Hm} {w:World} {MB clock:Nat} {es:Array MapEntry} {from_:Int} {seen:Array Nat} {L:List Ky} (h:Kl X es from_ seen L) (hp:Hp w MB X es clock) (h0:(leftOf es seen).size=0) (k:Ky):k∈L ↔ ∃ x∈X,x.1.fr=from_∧x.1.key=k:=by
 rw [h.mem k]
 constructor
 ·rintro ⟨_,_,_,x,hx,_,h5,h6⟩;exact ⟨x,hx,h5,h6⟩
 ·rintro ⟨x,hx,h5,h6⟩
  obtain ⟨e,he,h1,_⟩:=hp.all hx
  exact ⟨e,he,all_seen es seen h0 e he,x,hx,h1,h5,h6⟩
set_option maxRecDepth 100000 in
set_option maxHeartbeats 4000000 in
theorem keysFrom_any (TB HB hoff nb hcap b MB:Nat) (from_:Int) (X:List Hm) (es:Array MapEntry) (clock:Nat) (w:World)
  (c0:w.cell? ⟨TB,0,none⟩=some (.slice (some ⟨HB,hoff,none⟩) nb hcap)) (cb:w.cell? ⟨HB,hoff+b,none⟩=some (.map (some MB))) (hb:b<nb) (hX:X.length≤1048576)
  (hp:Hp w MB X es clock) :
  Calls Tryz.prog 41 #[.pointer (some ⟨TB,0,none⟩),.int .i64 b,.int .i64 from_] w fun e w'=>∃ v L,e = .returned v∧w'.ownsRow w.heap.size 112 2 v L.length (kcells L)∧L.Pairwise (fun x y=>klt x y=true)∧(∀ k,k∈L ↔ ∃ x∈X,x.1.fr=from_∧x.1.key=k)∧Gr w w':=by
 obtain ⟨i0,hi,hz0,hz1,hz2⟩:=info_parts Tryz.infoKey
 have HP:=Hid.mk' hp
 clear hp
 have hrg:=run_range_map (P:=Tryz.prog) w 123 112 121 MB es clock Tryz.underlying123 HP.out.mp.blk
 go_enter Tryz.func41,Tryz.ntmps41
 go_wp2_with fail
 have I0:=Hid.mk' (heap_alloc_new w (.mapIter (some MB) clock #[] clock))
 have G0:=Hid.mk' ((Gr.refl w).alloc (.mapIter (some MB) clock #[] clock))
 clear hrg c0 cb
 go_loopw [7] (fun v wr=>∃ (seen:Array Nat) (L:List Ky),Hid (wr.heap[w.heap.size]? = some (.mapIter (some MB) clock seen clock))∧Hid (Gr w wr)∧Hid (wr.ownsRow w.heap.size 112 2 v L.length (kcells L))∧Hid (Kl X es from_ seen L)) (fun _ wr=>(leftOf es (wr.iterSeen w.heap.size)).size)
 case atStart=>exact ⟨#[],[],I0,G0,World.ownsRow_nil _ _ _ _,Kl.init X es from_⟩
 case round =>
  clear I0 G0
  obtain ⟨seen,L,IT,G,O,KL⟩:=hrel
  obtain ⟨va,vm,vk,rfl⟩:=owns_slice O.out
  have HMS:Hid (leftOf es (wr.iterSeen w.heap.size)=leftOf es seen):=by show _=_;unfold World.iterSeen;rw [IT.out]
  rcases next_law (HP.out.gr G.out) IT.out (Nat.le_refl _) G.out with ⟨h0,hnx⟩ | ⟨e,he,W2,hnx,hen,hit2,g2,hoth,hsz2⟩
  ·have HA:=Hid.mk' (KL.out.all HP.out h0)
   have HND:=Hid.mk' KL.out.nd
   have HLN:=Hid.mk' KL.out.len
   clear h0
   obtain ⟨va',vk',he',hsh⟩:=owns_shape O.out
   obtain ⟨rfl,rfl,rfl⟩:va=va'∧vm=L.length∧vk=vk':=by injection he' with h1 h2 h3;exact ⟨h1,h2,h3⟩
   clear he'
   by_cases hL:L=[]
   ·subst hL
    have HS:=Hid.mk' (sortKeys_none va vk wr)
    go_wp2_with fail
    refine HS.out.mono ?_
    rintro e w3 ⟨rfl,g3⟩
    have G3:=Hid.mk' (Gr.call G.out g3)
    have O3:=Hid.mk' (ownsGr O.out g3)
    go_wp2_with fail
    go_ret
    exact ⟨_,[],rfl,O3.out,List.Pairwise.nil,HA.out,G3.out⟩
   ·obtain ⟨g,rfl⟩:=hsh (by cases L with | nil=>exact absurd rfl hL | cons a t=>simp)
    have HS:=Hid.mk' (sortKeys_some L g vk w wr (by have:=HLN.out;omega) G.out O.out)
    clear hL hsh
    go_wp2_with fail
    refine HS.out.mono ?_
    rintro e w3 ⟨rfl,L',hp,hs,ho,g3⟩
    have hlen:=hp.length_eq
    have G3:=Hid.mk' g3
    have O3:=Hid.mk' ho
    rw [hlen] at O3
    have SR:Hid (L'.Pairwise fun x y=>klt x y=true):=by
     have hnd:L'.Pairwise fun x y=>x≠y:=hp.symm.pairwise HND.out (fun {a b} h=>h.symm)
     refine List.Pairwise.imp ?_ (List.Pairwise.and hs hnd)
     rintro a b ⟨h1,h2⟩
     rcases klt_tri a b with h3 | h3 | h3
     ·exact h3
     ·exact absurd h3 h2
     ·rw [h3] at h1;cases h1
    have MB':Hid (∀ k,k∈L' ↔ ∃ x∈X,x.1.fr=from_∧x.1.key=k):=fun k=>(hp.mem_iff).trans (HA.out k)
    have HLE:=Hid.mk' hlen
    clear hp hs ho g3 hlen
    go_wp2_with fail
    go_ret
    exact ⟨_,L',rfl,by rw [HLE.out];exact O3.out,SR.out,MB'.out,G3.out⟩
  ·obtain ⟨x,hx,hk,hv'⟩:=HP.out.ent (mem_left he).1
   rw [hv'] at hnx hen
   rw [hk] at hnx hen
   unfold hv pk at hnx hen
   have HLN:=Hid.mk' KL.out.len
   have IT2:=Hid.mk' hit2
   have G2:=Hid.mk' g2
   have hW2:w.heap.size+1≤W2.heap.size:=blk_lt IT2.out
   have HNE:Hid (Value.ownBlock (.slice va vm vk)≠some w.heap.size):=by
    intro h5
    rcases O.out.2 with ⟨h6,_⟩ | ⟨b',cap',cur,h6,_,h7,_⟩
    ·rw [h6] at h5;simp [Value.ownBlock] at h5
    ·rw [h6] at h5
     have:b'=w.heap.size:=by simpa [Value.ownBlock] using h5
     subst this
     rw [IT.out] at h7;cases h7
   have O2:Hid (W2.ownsRow w.heap.size 112 2 (.slice va vm vk) L.length (kcells L)):=by
    obtain ⟨q1,q2⟩:=O.out
    refine ⟨q1,?_⟩
    rcases q2 with q2 | ⟨b',cap',cur,h6,h8,h7,q3⟩
    ·exact Or.inl q2
    ·refine Or.inr ⟨b',cap',cur,h6,h8,?_,q3⟩
     rw [hoth b' (fun h9=>HNE.out (by rw [h6,h9];rfl))];exact h7
   have MS:Hid (∀ w':World,w'.heap[w.heap.size]? = some (.mapIter (some MB) clock (seen.push e.born) clock)→(leftOf es (w'.iterSeen w.heap.size)).size<(leftOf es (wr.iterSeen w.heap.size)).size):=by
    intro w' hi
    rw [HMS.out]
    unfold World.iterSeen
    rw [hi]
    exact left_shrinks es seen e he
   have G3:=Hid.mk' (((Gr.refl W2).alloc (.cells #[.int .i64 x.1.key.1,.int .i64 x.1.key.2] 112)).alloc (.cells #[.int .i64 x.1.key.1,.int .i64 x.1.key.2,.slice x.2.1 x.1.f.length x.2.2,.int .i64 x.1.fr] 121))
   have G23:=Hid.mk' (Gr.call G2.out G3.out)
   have O3:=Hid.mk' (ownsGr O2.out G3.out)
   by_cases hf:x.1.fr=from_
   ·have KL2:=Hid.mk' (KL.out.take HP.out (mem_left he).1 (mem_left he).2 hx hk hf)
    subst hf
    clear he hk hx hit2 g2 hoth hsz2 hv' G IT O KL HMS
    have hs3:((W2.alloc (.cells #[.int .i64 x.1.key.1,.int .i64 x.1.key.2] 112)).alloc (.cells #[.int .i64 x.1.key.1,.int .i64 x.1.key.2,.slice x.2.1 x.1.f.length x.2.2,.int .i64 x.1.fr] 121)).heap.size=W2.heap.size+1+1:=by simp
    go_wp2_with (at_builtin;refine wpList_append_own _ rfl _ _ 41 rfl w.heap.size 112 i0 _ 2 16 Tryz.underlying41 hi hz0 hz1 hz2 rfl (by decide) _ _ _ rfl (O3.out.alloc _) ⟨W2.heap.size+1+1,0,none⟩ 1 1 [.int .i64 x.1.key.1,.int .i64 x.1.key.2] rfl rfl ?k1 ?k2 ?k3 ?k4 ?k5 ?_)
    case k1=>exact World.news_of_block (new_atK hs3)
    case k2=>intro t ht;simp at ht;rcases ht with rfl | rfl <;> rfl
    case k3=>have:=HLN.out;unfold maxLen;omega
    case k4=>have:=HLN.out;omega
    case k5=>simp;omega
    intro v5 w5 ho5 hg5 _
    have G5:Hid (Gr w w5):=Below.grown (G23.out.alloc _) hg5 (Nat.le_trans G23.out.size (by simp)) (own_low O3.out)
    have I5:Hid (w5.heap[w.heap.size]? = some (.mapIter (some MB) clock (seen.push e.born) clock)):=by
     show _=_
     rw [hg5.block w.heap.size (by simp;omega) (fun h5=>HNE.out h5.symm),Below.heap_alloc _ _ _ (by simp;omega),G3.out.block w.heap.size (by omega)]
     exact IT2.out
    have O5:Hid (w5.ownsRow w.heap.size 112 2 v5 (L++[x.1.key]).length (kcells (L++[x.1.key]))):=by
     show World.ownsRow _ _ _ _ _ _ _
     rw [kcells_snoc,List.length_append];exact ho5
    have M5:=Hid.mk' (MS.out w5 I5.out)
    obtain ⟨ya,ym,yk,rfl⟩:=owns_slice ho5
    clear ho5 hg5 O3 O2 MS
    go_wp2_with fail
    exact ⟨⟨_,_,I5,G5,O5,KL2⟩,M5.out⟩
   ·have KL2:=Hid.mk' (KL.out.skip HP.out (mem_left he).1 hx hk hf)
    have hf':(x.1.fr==from_)=false:=by simpa using hf
    clear he hk hx hit2 g2 hoth hsz2 hv' G IT O KL HMS
    have I3:Hid (((W2.alloc (.cells #[.int .i64 x.1.key.1,.int .i64 x.1.key.2] 112)).alloc (.cells #[.int .i64 x.1.key.1,.int .i64 x.1.key.2,.slice x.2.1 x.1.f.length x.2.2,.int .i64 x.1.fr] 121)).heap[w.heap.size]? = some (.mapIter (some MB) clock (seen.push e.born) clock)):=(G3.out.block w.heap.size (by omega)).trans IT2.out
    have M3:=Hid.mk' (MS.out _ I3.out)
    clear MS
    go_wp2_with fail
    exact ⟨⟨_,L,I3,G23,O3,KL2⟩,M3.out⟩
end Go.Proofs.YtecnfgikbmcgoaaGreat
