import Derived.Test.YtecnfgikbmcgoaaGreatG24
import Derived.Test.YtecnfgikbmcgoaaGreatG27
import Derived.Test.YtecnfgikbmcgoaaGreatG20
import Derived.Test.YtecnfgikbmcgoaaGreatG8
namespace Go.Proofs.YtecnfgikbmcgoaaGreat
open Go.RowKit
theorem Tryz.infoRSl:(Tryz.prog.info? 199).map (fun i=>(i.zero,i.size,i.bytes))=some (some (.slice none 0 0),1,24):=by kernel_rfl
theorem Tryz.infoBool:(Tryz.prog.info? 4).map (fun i=>(i.zero,i.size,i.bytes))=some (some (.bool false),1,1):=by kernel_rfl
theorem Tryz.infoRLk:(Tryz.prog.info? 196).map (fun i=>(i.zero,i.size,i.bytes))=some (some (.agg #[.int .i64 0,.int .i64 0,.slice none 0 0,.slice none 0 0]),4,64):=by kernel_rfl
def RnK (A:Nat→Prop) (w:World) (n:Int) (es:List Ky) (e:Ending) (w':World):Prop :=
 (refB n es=false∧e = .returned (.tuple #[.pointer none,.int .i64 4])∧Gr w w') ∨
 (refB n es=true ∧ ∃ C R lv Ls,e = .returned (.tuple #[.pointer (some ⟨C.TB,0,none⟩),.int .i64 0])∧n=(C.nb:Int)∧Rt A C R w' (fun _=>(none,0)) (fun _=>[]) lv Ls (.slice none 0 0) []∧Ls.map Rln.av=(lkA es C.nb C.nb).map (fun p=>⟨p.1,p.2,[],[]⟩)∧Fr (fun _=>.no) R w w')
set_option maxRecDepth 100000 in
set_option maxHeartbeats 1000000 in
theorem rNew_bad (A:Nat→Prop) (n:Int) (es:List Ky) (ad:Option Addr) (cap:Nat) (w:World) (hn:¬ (1≤n∧n≤8∧(es.length:Int)=n - 1)) :
  Calls Tryz.prog 57 #[.int .i64 n,.slice ad es.length cap] w fun e w'=>RnK A w n es e w':=by
 have TB:Hid (refB n es=false):=by
  show _=_
  rw [refB_tree]
  simp only [treeB,Bool.and_eq_false_iff,decide_eq_false_iff_not]
  by_cases h1:1≤n
  ·by_cases h2:n≤8
   ·exact Or.inl (Or.inr (fun h3=>hn ⟨h1,h2,h3⟩))
   ·exact Or.inl (Or.inl (Or.inr h2))
  ·exact Or.inl (Or.inl (Or.inl h1))
 have HN:=Hid.mk' hn
 clear hn
 by_cases h1:n<1
 ·go_enter Tryz.func57,Tryz.ntmps57
  go_wp2_with fail
  exact bodyPost_ret (v:=.tuple #[.pointer none,.int .i64 4]) (by simp [results,Tryz.results57,go_sem]) rfl (Or.inl ⟨TB.out,rfl,Gr.refl _⟩)
 ·by_cases h2:8<n
  ·go_enter Tryz.func57,Tryz.ntmps57
   go_wp2_with fail
   exact bodyPost_ret (v:=.tuple #[.pointer none,.int .i64 4]) (by simp [results,Tryz.results57,go_sem]) rfl (Or.inl ⟨TB.out,rfl,Gr.refl _⟩)
  ·have h3:((es.length:Int)==n - 1)=false:=by
    simp only [beq_eq_false_iff_ne]
    exact fun h=>HN.out ⟨by omega,by omega,h⟩
   go_enter Tryz.func57,Tryz.ntmps57
   go_wp2_with fail
   exact bodyPost_ret (v:=.tuple #[.pointer none,.int .i64 4]) (by simp [results,Tryz.results57,go_sem]) rfl (Or.inl ⟨TB.out,rfl,Gr.refl _⟩)
theorem owns_cells {w:World} {base n g:Nat} {e:TypeId} {xs:List Value} (h:w.ownsRow base e 1 (.slice (some ⟨g,0,none⟩) n n) n xs):∃ cur,w.heap[g]? = some (.cells cur e (0,0))∧cur.toList=xs:=by
 rcases h.2 with ⟨h2,_⟩ | ⟨g',cap,cur,hv,_,hg,_,_,hs,ht⟩
 ·cases h2
 ·injection hv with hv _ hc
  injection hv with hv
  injection hv with h1 _
  subst h1 hc
  refine ⟨cur,hg,?_⟩
  rw [← ht,List.take_of_length_le (by rw [Array.length_toList];omega)]
structure Rn1 (w:World) (k HB TB:Nat) (lv:Value) (wr:World):Prop where
 g:Gr w wr
 h:∃ cur,wr.heap[HB]? = some (.cells cur 199 (0,0))∧cur.toList=List.replicate k (.slice none 0 0)
 t:wr.heap[TB]? = some (.cells #[.slice (some ⟨HB,0,none⟩) k k,lv,.slice none 0 0] 165 (0,0))
 lo:w.heap.size≤HB∧w.heap.size≤TB
theorem Rn1.gr {w:World} {k HB TB:Nat} {lv:Value} {wr w':World} (h:Rn1 w k HB TB lv wr) (g:Gr wr w'):Rn1 w k HB TB lv w':=by
 obtain ⟨cur,h1,h2⟩:=h.h
 exact ⟨Gr.call h.g g,⟨cur,blk_gr g h1,h2⟩,blk_gr g h.t,h.lo⟩
def bools (S:List Bool):List Value:=S.map fun b=>.bool b
structure Rn2 (w:World) (k HB TB SB:Nat) (S:List Bool) (wr:World):Prop where
 r:Rn1 w k HB TB (.slice none 0 0) wr
 s:∃ cur,wr.heap[SB]? = some (.cells cur 4 (0,0))∧cur.toList=bools S
 n:SB≠HB∧SB≠TB∧w.heap.size≤SB
theorem Rn2.cell {w:World} {k HB TB SB:Nat} {S:List Bool} {wr:World} (h:Rn2 w k HB TB SB S wr) {i:Nat} (hi:i<S.length):wr.cell? ⟨SB,i,none⟩=some (.bool (bat S i)):=by
 obtain ⟨cur,h1,h2⟩:=h.s
 rw [cell_of_row _ _ _ _ _ _ h1, ← Array.getElem?_toList,h2]
 unfold bools bat
 rw [List.getElem?_map,List.getD_eq_getElem?_getD,List.getElem?_eq_getElem hi];rfl
theorem Rn2.fz {w:World} {k HB TB SB:Nat} {S:List Bool} {wr:World} (h:Rn2 w k HB TB SB S wr) (i:Nat):wr.frozen? ⟨SB,i,none⟩=false:=by
 obtain ⟨cur,h1,_⟩:=h.s
 exact frz0 h1 i
theorem Rn2.set {w:World} {k HB TB SB:Nat} {S:List Bool} {wr:World} (h:Rn2 w k HB TB SB S wr) (i:Nat) (x:Bool):Rn2 w k HB TB SB (S.set i x) (wr.setCell ⟨SB,i,none⟩ (.bool x)):=by
 obtain ⟨cur,h1,h2⟩:=h.s
 obtain ⟨cur',h3,h4⟩:=h.r.h
 refine ⟨⟨gr_set h.r.g h.n.2.2 _,⟨cur',(Below.heap_setCell wr ⟨SB,i,none⟩ _ _ (fun e=>h.n.1 e.symm)).trans h3,h4⟩,(Below.heap_setCell wr ⟨SB,i,none⟩ _ _ (fun e=>h.n.2.1 e.symm)).trans h.r.t,h.r.lo⟩,⟨cur.setIfInBounds i (.bool x),heap_setCell_same _ _ _ _ _ _ h1,?_⟩,h.n⟩
 rw [Array.toList_setIfInBounds,h2]
 simp [bools,List.map_set]
def lk0 (p:Nat × Nat):List Value:=[.int .i64 (p.1:Int),.int .i64 (p.2:Int),.slice none 0 0,.slice none 0 0]
structure Rn3 (w:World) (k HB TB:Nat) (L:List (Nat × Nat)) (v:Value) (wr:World):Prop where
 r:Rn1 w k HB TB v wr
 q:Qr wr 196 4 (fun i=>w.heap.size≤i∧i≠HB∧i≠TB) v L.length (L.flatMap lk0)
 n:HB≠TB
theorem Rn3.gr {w:World} {k HB TB:Nat} {L:List (Nat × Nat)} {v:Value} {wr w':World} (h:Rn3 w k HB TB L v wr) (g:Gr wr w'):Rn3 w k HB TB L v w' :=
 ⟨h.r.gr g,h.q.kept fun i hi hP=>⟨g.block i hi,hP⟩,h.n⟩
theorem Rn3.put {w:World} {k HB TB:Nat} {L:List (Nat × Nat)} {v v':Value} {wr w1:World} (h:Rn3 w k HB TB L v wr) (a b:Nat) (hq:Qr w1 196 4 (fun i=>v'.ownBlock=some i) v' (L.length+1) (L.flatMap lk0++[.int .i64 (a:Int),.int .i64 (b:Int),.slice none 0 0,.slice none 0 0])) (hg:wr.grownBy w1 v.ownBlock) (ho:v'.ownBlock=v.ownBlock∨v'.ownBlock=some wr.heap.size):Rn3 w k HB TB (L++[(a,b)]) v' (w1.setCell ⟨TB,1,none⟩ v'):=by
 have own:=h.q.own
 obtain ⟨cur,h1,h2⟩:=h.r.h
 have lT:=blk_lt h.r.t
 have lH:=blk_lt h1
 have gs:=h.r.g.size
 have t1:w1.heap[TB]? = some (.cells #[.slice (some ⟨HB,0,none⟩) k k,v,.slice none 0 0] 165 (0,0)):=(hg.block TB lT (fun e=>(own TB e.symm).1.2.2 rfl)).trans h.r.t
 have own':∀ i,v'.ownBlock=some i→w.heap.size≤i∧i≠HB∧i≠TB:=fun i hi=>by
  rcases ho with ho | ho
  ·exact (own i (ho ▸ hi)).1
  ·rw [ho] at hi
   injection hi with hi
   omega
 refine ⟨⟨gr_set (Below.grown h.r.g hg gs (fun i hi=>(own i hi).1.1)) h.r.lo.2 _,⟨cur,?_,h2⟩,?_,h.r.lo⟩,?_,h.n⟩
 ·rw [Below.heap_setCell w1 ⟨TB,1,none⟩ v' HB h.n]
  exact (hg.block HB lH (fun e=>(own HB e.symm).1.2.1 rfl)).trans h1
 ·rw [heap_setCell_same _ _ _ _ _ _ t1];rfl
 ·rw [List.length_append,List.flatMap_append]
  simp only [List.flatMap_cons,List.flatMap_nil,List.append_nil]
  exact hq.kept fun i _ hi=>⟨Below.heap_setCell w1 ⟨TB,1,none⟩ v' i (own' i hi).2.2,own' i hi⟩
def ln0 (p:Nat × Nat):Rln:=⟨p.1,p.2,[],none,0,[],none,0⟩
theorem lcells0 (L:List (Nat × Nat)):lcellsR (L.map ln0)=L.flatMap lk0:=by
 unfold lcellsR
 rw [List.flatMap_map];rfl
theorem Rn3.done {A:Nat→Prop} {w:World} {k HB TB:Nat} {L:List (Nat × Nat)} {v:Value} {wr:World} (h:Rn3 w k HB TB L v wr) (hk1:1≤k) (hk8:k≤8) (hA:∀ i,A i→i<w.heap.size) :
  ∃ R,Rt A ⟨k,TB,HB,k⟩ R wr (fun _=>(none,0)) (fun _=>[]) v (L.map ln0) (.slice none 0 0) []∧Fr (fun _=>.no) R w wr:=by
 have own:=h.q.own
 obtain ⟨cur,h1,h2⟩:=h.r.h
 have lT:=blk_lt h.r.t
 have lH:=blk_lt h1
 have gs:=h.r.g.size
 have lo1:=h.r.lo.1
 have lo2:=h.r.lo.2
 have nn:=h.n
 have low:∀ i,i<w.heap.size→(if i=HB then Rl.hm 0 else if i=TB then .cm else if v.ownBlock=some i then .lm else .no) = .no:=fun i hi=>by
  rw [if_neg (by omega),if_neg (by omega),if_neg (fun e=>by have:=(own i e).1.1;omega)]
 refine ⟨fun i=>if i=HB then .hm 0 else if i=TB then .cm else if v.ownBlock=some i then .lm else .no,⟨⟨hk8,hk1,h.r.t,?_,⟨cur,h1,fun b hb=>?_⟩,if_pos rfl,fun i hi=>?_,fun i hi=>low i (hA i hi),fun i hi=>Nat.lt_of_lt_of_le (hA i hi) gs⟩,⟨fun b hb=>Or.inl rfl,fun b hb x hx=>by cases hx⟩,⟨?_,fun j hj=>?_,fun l hl x hx=>?_,fun l hl=>?_⟩,⟨Qr.nil _ _ _ _,fun j hj=>absurd hj (Nat.not_lt_zero j),fun c hc=>by cases hc⟩⟩,⟨h.r.g.os,h.r.g.tape,h.r.g.output,gs,fun i hi _=>h.r.g.block i hi,fun i hi=>low i hi⟩⟩
 ·show (if TB=HB then Rl.hm 0 else if TB=TB then .cm else _) = .cm
  rw [if_neg (fun e=>nn e.symm),if_pos rfl]
 ·rw [← Array.getElem?_toList,h2]
  have hb:b<k:=hb
  simp [hb]
 ·show (if i=HB then Rl.hm 0 else if i=TB then .cm else if v.ownBlock=some i then .lm else .no) = .no
  rw [if_neg (by omega),if_neg (by omega),if_neg (fun e=>by have:=(own i e).2;omega)]
 ·rw [lcells0,List.length_map]
  refine ⟨h.q.1,?_⟩
  rcases h.q.2 with h3 | ⟨g,off,cap,cur',hv,hP,rr⟩
  ·exact Or.inl h3
  ·refine Or.inr ⟨g,off,cap,cur',hv,?_,rr⟩
   show (if g=HB then Rl.hm 0 else if g=TB then .cm else if v.ownBlock=some g then .lm else .no) = .lm
   rw [if_neg hP.2.1,if_neg hP.2.2,if_pos (by rw [hv];rfl)]
 ·obtain ⟨p,_,e⟩:=List.mem_map.1 (lnat_mem hj)
  rw [← e];exact Qr.nil _ _ _ _
 ·obtain ⟨p,_,rfl⟩:=List.mem_map.1 hl
  cases hx
 ·obtain ⟨p,_,rfl⟩:=List.mem_map.1 hl
  exact Or.inl rfl
theorem mlk_succ (es:List Ky) (a b q:Nat) (h:q<es.length):mlk (es.take (q+1)) a b=mlk (es.take q) a b++(if isE a b (eat es q)=true then [eat es q] else []):=by
 unfold mlk
 rw [eat_take h,List.filter_append]
 congr 1
 cases hc:isE a b (eat es q) <;> simp [hc]
def lkP (es:List Ky) (k a b p:Nat):List (Nat × Nat):=lkA es k a++lkR es a b++(mlk (es.take p) a b).map fun _=>(a,b)
theorem lkP_zero (es:List Ky) (k a b:Nat):lkP es k a b 0=lkA es k a++lkR es a b:=by simp [lkP,mlk]
theorem lkP_all (es:List Ky) (k a b:Nat):lkP es k a b es.length=lkA es k a++lkR es a (b+1):=by
 unfold lkP
 rw [List.take_length,lkR_succ, ← List.append_assoc];rfl
theorem lkP_yes {es:List Ky} {a b p:Nat} (k:Nat) (h:p<es.length) (hc:isE a b (eat es p)=true):lkP es k a b (p+1)=lkP es k a b p++[(a,b)]:=by
 unfold lkP
 rw [mlk_succ es a b p h,if_pos hc,List.map_append, ← List.append_assoc];rfl
theorem lkP_no {es:List Ky} {a b p:Nat} (k:Nat) (h:p<es.length) (hc:isE a b (eat es p)=false):lkP es k a b (p+1)=lkP es k a b p:=by
 unfold lkP
 rw [mlk_succ es a b p h,if_neg (by rw [hc];exact fun e=>by cases e),List.append_nil]
theorem lkP_len {es:List Ky} (hg:good (fun b=>b) es) {k a b:Nat} (p:Nat) (ha:a≤8) (hb:b≤8) (hk:k≤8):(lkP es k a b p).length≤1000:=by
 unfold lkP
 have h1:=lkA_len hg k a
 have h2:=lkR_len hg a b
 have h3:(mlk (es.take p) a b).length≤es.length:=Nat.le_trans (List.length_filter_le _ _) (List.length_take_le' p es)
 have h4:a*k≤64:=Nat.le_trans (Nat.mul_le_mul ha hk) (by omega)
 have h5:(mlk (es.take p) a b).length≤(mlk es a b).length:=by
  unfold mlk
  exact (List.Sublist.filter _ (List.take_sublist p es)).length_le
 have h6:=(mlk_one es _ hg a b).2
 simp only [List.length_append,List.length_map]
 omega
theorem EdAt.gr' {w w':World} {ad:Option Addr} {es:List Ky} (h:EdAt w ad es) (g:Gr w w') {i:Nat} (hi:i<es.length):∃ b off,ad=some ⟨b,off,none⟩∧w'.cell? ⟨b,off+i*2,none⟩=some (.int .i64 (eat es i).1)∧w'.cell? ⟨b,off+i*2+1,none⟩=some (.int .i64 (eat es i).2)∧b<w.heap.size:=by
 rcases h with rfl | ⟨b,off,rfl,hb,hc⟩
 ·cases hi
 ·obtain ⟨h1,h2⟩:=hc i hi
  exact ⟨b,off,rfl,by rw [(bcell g).1 _ _ hb];exact h1,by rw [(bcell g).1 _ _ hb];exact h2,hb⟩
theorem all_taken (p:Ky→Bool) (l:List Ky) (q:Nat) (h:q<l.length):(l.take (q+1)).all p=((l.take q).all p&&p (eat l q)):=by
 rw [eat_take h,List.all_append];simp
set_option maxRecDepth 100000 in
set_option maxHeartbeats 4000000 in
theorem rNew_t (A:Nat→Prop) (k:Nat) (es:List Ky) (ad:Option Addr) (cap:Nat) (w:World) (hn1:1≤k) (hn2:k≤8) (hn3:es.length+1=k) (h:EdAt w ad es) (hA:∀ i,A i→i<w.heap.size) :
  Calls Tryz.prog 57 #[.int .i64 k,.slice ad es.length cap] w fun e w'=>RnK A w k es e w':=by
 obtain ⟨i0,hi,hz0,hz1,hz2⟩:=info_parts Tryz.infoRSl
 have HE:=Hid.mk' h
 have HA:=Hid.mk' hA
 clear h hA
 have f1:¬ (k:Int)<1:=by omega
 have f2:¬ (8:Int)<(k:Int):=by omega
 have f3:((es.length:Int)==(k:Int) - 1)=true:=by simp;omega
 go_enter Tryz.func57,Tryz.ntmps57
 have HN3:=Hid.mk' hn3
 have hel:es.length≤8:=by omega
 clear hn3
 go_wp2_with (at_make;refine wpList_make_full _ rfl _ _ 161 rfl w.heap.size 199 i0 _ 1 Tryz.underlying161 hi hz0 hz1 _ _ _ _ k rfl rfl (by omega) (by omega) ?b2 ?b3 (Nat.le_refl _) ?_)
 case b2=>omega
 case b3=>unfold maxLen;omega
 intro w1 hown1 hgrow1
 have G1:Gr w w1:=Below.grown (Gr.refl w) hgrow1 (Nat.le_refl _) (fun b hb=>by cases hb)
 obtain ⟨cur0,hc0,hc1⟩:=owns_cells hown1
 rw [toList_madeCells_one] at hc1
 have hsl:w.heap.size<w1.heap.size:=blk_lt hc0
 have N0:Hid (Rn1 w k w.heap.size w1.heap.size (.slice none 0 0) (w1.alloc (.cells #[.slice (some ⟨w.heap.size,0,none⟩) k k,.slice none 0 0,.slice none 0 0] 165))):=⟨G1.alloc _,⟨cur0,blk_gr ((Gr.refl w1).alloc _) hc0,hc1⟩,heap_alloc_new w1 _,Nat.le_refl _,Nat.le_of_lt hsl⟩
 clear hown1 hgrow1 G1 hc0 hc1
 go_wp2_with fail
 generalize w1.alloc (.cells #[.slice (some ⟨w.heap.size,0,none⟩) k k,.slice none 0 0,.slice none 0 0] 165)=W1 at *
 go_loopw [7] (fun i wr=>∃ q:Nat,q≤es.length∧i = .int .i64 q∧Hid (Rn1 w k w.heap.size w1.heap.size (.slice none 0 0) wr)∧Hid ((es.take q).all (inR k)=true)) (fun i _=>es.length - (intOf i).toNat)
 case atStart=>exact ⟨0,Nat.zero_le _,rfl,N0,rfl⟩
 case round =>
  clear N0
  obtain ⟨q,hq,rfl,NR,HAL⟩:=hrel
  by_cases hql:q<es.length
  ·obtain ⟨b,off,rfl,c0,c1,hb⟩:=HE.out.gr' NR.out.g hql
   have HS:=Hid.mk' (all_taken (inR k) es q hql)
   have HB:Hid (inR k (eat es q)=false→refB k es=false):=fun hx=>by
    unfold refB
    have:es.all (inR (k:Int).toNat)=false:=by
     rw [List.all_eq_false]
     exact ⟨eat es q,eat_mem hql,by simp only [Int.toNat_natCast,hx];exact fun e=>by cases e⟩
    rw [this];simp
   have HIN:Hid (inR k (eat es q)=(decide (0≤(eat es q).1)&&decide (0≤(eat es q).2)&&decide ((eat es q).1<k)&&decide ((eat es q).2<k))):=rfl
   generalize eat es q=x at *
   obtain ⟨x1,x2⟩:=x
   simp only at HIN
   by_cases e1:x1<0
   ·have HF:=Hid.mk' (HB.out (by rw [HIN.out];simp;omega))
    clear HS HB HIN
    go_wp2_with fail
    exact bodyPost_ret (v:=.tuple #[.pointer none,.int .i64 4]) (by simp [results,Tryz.results57,go_sem]) rfl (Or.inl ⟨HF.out,rfl,NR.out.g⟩)
   by_cases e2:x2<0
   ·have HF:=Hid.mk' (HB.out (by rw [HIN.out];simp;omega))
    clear HS HB HIN
    go_wp2_with fail
    exact bodyPost_ret (v:=.tuple #[.pointer none,.int .i64 4]) (by simp [results,Tryz.results57,go_sem]) rfl (Or.inl ⟨HF.out,rfl,NR.out.g⟩)
   by_cases e3:(k:Int)≤x1
   ·have HF:=Hid.mk' (HB.out (by rw [HIN.out];simp;omega))
    clear HS HB HIN
    go_wp2_with fail
    exact bodyPost_ret (v:=.tuple #[.pointer none,.int .i64 4]) (by simp [results,Tryz.results57,go_sem]) rfl (Or.inl ⟨HF.out,rfl,NR.out.g⟩)
   by_cases e4:(k:Int)≤x2
   ·have HF:=Hid.mk' (HB.out (by rw [HIN.out];simp;omega))
    clear HS HB HIN
    go_wp2_with fail
    exact bodyPost_ret (v:=.tuple #[.pointer none,.int .i64 4]) (by simp [results,Tryz.results57,go_sem]) rfl (Or.inl ⟨HF.out,rfl,NR.out.g⟩)
   ·have HT:Hid ((es.take (q+1)).all (inR k)=true):=by
     show _=_
     rw [HS.out,HAL.out,HIN.out];simp;omega
    clear HS HB HIN
    go_wp2_with fail
    exact ⟨⟨q+1,hql,by simp,NR,HT⟩,measM_dec _ _ hql⟩
  ·have hqe:q=es.length:=by omega
   subst hqe
   have HIA:Hid (∀ e∈es,inR k e=true):=by
    have:=HAL.out
    rw [List.take_length,List.all_eq_true] at this
    exact this
   clear HAL
   obtain ⟨j0,gi,gz0,gz1,gz2⟩:=info_parts Tryz.infoBool
   go_wp2_with (at_make;refine wpList_make_full _ rfl _ _ 192 rfl wr.heap.size 4 j0 _ 1 Tryz.underlying192 gi gz0 gz1 _ _ _ _ k rfl rfl (by omega) (by omega) ?b2 ?b3 (Nat.le_refl _) ?_)
   case b2=>rw [gz2];omega
   case b3=>unfold maxLen;omega
   intro w3 hown3 hgrow3
   have G3:Gr wr w3:=Below.grown (Gr.refl wr) hgrow3 (Nat.le_refl _) (fun b hb=>by cases hb)
   obtain ⟨cur3,hc3,hc4⟩:=owns_cells hown3
   rw [toList_madeCells_one] at hc4
   have hSB:=blk_lt hc3
   have hTB:=blk_lt NR.out.t
   have hHB:w.heap.size<wr.heap.size:=by
    obtain ⟨c,h1,_⟩:=NR.out.h
    exact blk_lt h1
   have N2:Rn2 w k w.heap.size w1.heap.size wr.heap.size (List.replicate k false) w3:=⟨NR.out.gr G3,⟨cur3,hc3,by rw [hc4];simp [bools]⟩,by omega,by omega,by omega⟩
   have s0:=N2.cell (i:=0) (by simp;omega)
   have z0:=N2.fz 0
   have N3:Hid (Rn2 w k w.heap.size w1.heap.size wr.heap.size (sInit k) (w3.setCell ⟨wr.heap.size,0,none⟩ (.bool true))):=N2.set 0 true
   clear hown3 hgrow3 G3 hc3 hc4 N2 NR
   generalize wr.heap.size=SB at *
   go_wp2_with fail
   clear s0 z0
   generalize w3.setCell ⟨SB,0,none⟩ (.bool true)=W3 at *
   go_loopw [11] (fun i wr=>∃ q:Nat,q≤k∧i = .int .i64 q∧Hid (Rn2 w k w.heap.size w1.heap.size SB (sAll es (sInit k) q) wr)) (fun i _=>k - (intOf i).toNat)
   case atStart=>exact ⟨0,Nat.zero_le _,rfl,N3⟩
   case round =>
    clear N3
    obtain ⟨q,hq,rfl,NR⟩:=hrel
    by_cases hqk:q<k
    ·have HLS:Hid ((sAll es (sInit k) q).length=k):=by show _=_;rw [sAll_len,sInit_len]
     have NR0:Hid (Rn2 w k w.heap.size w1.heap.size SB (sRound (es.take 0) (sAll es (sInit k) q)) wr):=NR
     have HNX:Hid (sAll es (sInit k) (q+1)=sRound es (sAll es (sInit k) q)):=rfl
     clear NR
     generalize sAll es (sInit k) q=S0 at *
     go_wp2_with fail
     go_loopw [12] (fun i wr=>∃ p:Nat,p≤es.length∧i = .int .i64 p∧Hid (Rn2 w k w.heap.size w1.heap.size SB (sRound (es.take p) S0) wr)) (fun i _=>es.length - (intOf i).toNat)
     case atStart=>exact ⟨0,Nat.zero_le _,rfl,NR0⟩
     case round =>
      clear NR0
      obtain ⟨p,hp,rfl,NR⟩:=hrel
      by_cases hpl:p<es.length
      ·obtain ⟨b,off,rfl,c0,c1,hb⟩:=HE.out.gr' NR.out.r.g hpl
       obtain ⟨u,v,hx,hu,hv⟩:=inR_iff.1 (HIA.out _ (eat_mem hpl))
       have HS2:Hid (sRound (es.take (p+1)) S0=sEdge (sRound (es.take p) S0) ((u:Int),(v:Int))):=by
        show _=_
        unfold sRound
        rw [eat_take hpl,List.foldl_append,hx];rfl
       have HX:=Hid.mk' hx
       rw [hx] at c0 c1
       have hlS:(sRound (es.take p) S0).length=k:=by rw [sRound_len];exact HLS.out
       have su:=NR.out.cell (i:=u) (by omega)
       have sv:=NR.out.cell (i:=v) (by omega)
       have HE2:Hid (sEdge (sRound (es.take p) S0) ((u:Int),(v:Int))=((sRound (es.take p) S0).set u (bat (sRound (es.take p) S0) u||bat (sRound (es.take p) S0) v)).set v (bat (sRound (es.take p) S0) u||bat (sRound (es.take p) S0) v)):=by show _=_;simp [sEdge]
       clear hx
       generalize sRound (es.take p) S0=S at *
       have hbS:b<wr.heap.size:=NR.out.r.g.lt hb
       generalize hbu:bat S u=bu at *
       generalize hbv:bat S v=bv at *
       have hu0:(0:Int)≤(u:Int):=by omega
       have hu1:(u:Int)<(k:Int):=by omega
       have hv0:(0:Int)≤(v:Int):=by omega
       have hv1:(v:Int)<(k:Int):=by omega
       clear hbu hbv
       cases bu with
       | true =>
        have N1:=NR.out.set u true
        have sv':=N1.cell (i:=v) (by rw [List.length_set];omega)
        have zu:=NR.out.fz u
        have zv:=N1.fz v
        obtain ⟨b2,off2,e9,c0',c1',_⟩:=HE.out.gr' N1.r.g hpl
        injection e9 with e9
        injection e9 with e91 e92
        subst e91 e92
        rw [HX.out] at c0' c1'
        have N2:Hid (Rn2 w k w.heap.size w1.heap.size SB (sRound (es.take (p+1)) S0) ((wr.setCell ⟨SB,u,none⟩ (.bool true)).setCell ⟨SB,v,none⟩ (.bool true))):=by
         show Rn2 _ _ _ _ _ _ _
         rw [HS2.out,HE2.out,Bool.true_or]
         exact N1.set v true
        clear N1 NR HS2 HE2
        go_wp2_with fail
        exact ⟨⟨p+1,hpl,by simp,N2⟩,measM_dec _ _ hpl⟩
       | false =>
        have N1:=NR.out.set u bv
        have sv':=N1.cell (i:=v) (by rw [List.length_set];omega)
        have zu:=NR.out.fz u
        have zv:=N1.fz v
        obtain ⟨b2,off2,e9,c0',c1',_⟩:=HE.out.gr' N1.r.g hpl
        injection e9 with e9
        injection e9 with e91 e92
        subst e91 e92
        rw [HX.out] at c0' c1'
        have N2:Hid (Rn2 w k w.heap.size w1.heap.size SB (sRound (es.take (p+1)) S0) ((wr.setCell ⟨SB,u,none⟩ (.bool bv)).setCell ⟨SB,v,none⟩ (.bool bv))):=by
         show Rn2 _ _ _ _ _ _ _
         rw [HS2.out,HE2.out,Bool.false_or]
         exact N1.set v bv
        clear N1 NR HS2 HE2
        go_wp2_with fail
        exact ⟨⟨p+1,hpl,by simp,N2⟩,measM_dec _ _ hpl⟩
      ·have hpe:p=es.length:=by omega
       subst hpe
       rw [List.take_length] at NR
       go_wp2_with fail
       exact ⟨⟨q+1,hqk,by simp,by rw [HNX.out];exact NR⟩,measM_dec _ _ hqk⟩
    ·have hqe:q=k:=by omega
     subst hqe
     have HSL:Hid ((sAll es (sInit q) q).length=q):=by show _=_;rw [sAll_len,sInit_len]
     have HRB:Hid (refB q es=(sAll es (sInit q) q).all id):=by
      show _=_
      have a1:es.all (inR (q:Int).toNat)=true:=by rw [Int.toNat_natCast];exact List.all_eq_true.2 HIA.out
      have a2:=HN3.out
      unfold refB
      rw [a1]
      simp only [Int.toNat_natCast,Bool.and_true]
      have b1:decide ((1:Int)≤q)=true:=by simp;omega
      have b2:decide ((q:Int)≤8)=true:=by simp;omega
      have b3:decide ((es.length:Int)=(q:Int) - 1)=true:=by simp;omega
      rw [b1,b2,b3];rfl
     generalize sAll es (sInit q) q=S at *
     go_wp2_with fail
     go_loopw [14] (fun i wr=>∃ p:Nat,p≤q∧i = .int .i64 p∧Hid (Rn2 w q w.heap.size w1.heap.size SB S wr)∧Hid (∀ j,j<p→bat S j=true)) (fun i _=>q - (intOf i).toNat)
     case atStart=>exact ⟨0,Nat.zero_le _,rfl,NR,fun j hj=>absurd hj (Nat.not_lt_zero j)⟩
     case round =>
      clear NR
      obtain ⟨p,hp,rfl,NR,HB⟩:=hrel
      by_cases hpl:p<q
      ·have sc:=NR.out.cell (i:=p) (by have:=HSL.out;omega)
       have p0:(0:Int)≤(p:Int):=by omega
       have p1:(p:Int)<(q:Int):=by omega
       cases hbp:bat S p with
       | false =>
        have HF:Hid (refB q es=false):=by
         show _=_
         rw [HRB.out, ← Bool.not_eq_true,all_bat]
         intro h
         have:=h p (by have:=HSL.out;omega)
         rw [hbp] at this;cases this
        rw [hbp] at sc
        go_wp2_with fail
        exact bodyPost_ret (v:=.tuple #[.pointer none,.int .i64 4]) (by simp [results,Tryz.results57,go_sem]) rfl (Or.inl ⟨HF.out,rfl,NR.out.r.g⟩)
       | true =>
        have HB2:Hid (∀ j,j<p+1→bat S j=true):=fun j hj=>by
         by_cases h:j<p
         ·exact HB.out j h
         ·obtain rfl:j=p:=by omega
          exact hbp
        rw [hbp] at sc
        go_wp2_with fail
        exact ⟨⟨p+1,hpl,by simp,NR,HB2⟩,measM_dec _ _ hpl⟩
      ·have hpe:p=q:=by omega
       subst hpe
       have HT:Hid (refB p es=true):=by
        show _=_
        rw [HRB.out,all_bat]
        exact fun i hi=>HB.out i (by have:=HSL.out;omega)
       have HGD:=Hid.mk' (good_of (by rw [← refB_tree];exact HT.out)).1
       have N5:Hid (∃ v,Rn3 w p w.heap.size w1.heap.size (lkP es p 0 0 0) v wr):=⟨_,NR.out.r,by rw [lkP_zero];exact Qr.nil _ _ _ _,by omega⟩
       clear NR HB HRB HSL
       obtain ⟨l0,li,lz0,lz1,lz2⟩:=info_parts Tryz.infoRLk
       go_wp2_with fail
       go_loopw [15] (fun i wr=>∃ a:Nat,a≤p∧i = .int .i64 a∧Hid (∃ v,Rn3 w p w.heap.size w1.heap.size (lkP es p a 0 0) v wr)) (fun i _=>p - (intOf i).toNat)
       case atStart=>exact ⟨0,Nat.zero_le _,rfl,N5⟩
       case round =>
        clear N5
        obtain ⟨a,ha,rfl,NA⟩:=hrel
        by_cases hal:a<p
        ·go_wp2_with fail
         go_loopw [16] (fun i wr=>∃ b:Nat,b≤p∧i = .int .i64 b∧Hid (∃ v,Rn3 w p w.heap.size w1.heap.size (lkP es p a b 0) v wr)) (fun i _=>p - (intOf i).toNat)
         case atStart=>exact ⟨0,Nat.zero_le _,rfl,NA⟩
         case round =>
          clear NA
          obtain ⟨b,hb,rfl,NB⟩:=hrel
          by_cases hbl:b<p
          ·go_wp2_with fail
           go_loopw [17] (fun i wr=>∃ q:Nat,q≤es.length∧i = .int .i64 q∧Hid (∃ v,Rn3 w p w.heap.size w1.heap.size (lkP es p a b q) v wr)) (fun i _=>es.length - (intOf i).toNat)
           case atStart=>exact ⟨0,Nat.zero_le _,rfl,NB⟩
           case round =>
            clear NB
            obtain ⟨q,hq,rfl,NQ⟩:=hrel
            by_cases hql2:q<es.length
            ·obtain ⟨v0,NV⟩:=NQ.out
             obtain ⟨be,off,rfl,c0,c1,hbe⟩:=HE.out.gr' NV.r.g hql2
             have HY:=Hid.mk' (fun hc=>lkP_yes (a:=a) (b:=b) p hql2 hc)
             have HNO:=Hid.mk' (fun hc=>lkP_no (a:=a) (b:=b) p hql2 hc)
             have HLL:=Hid.mk' (lkP_len HGD.out (k:=p) (a:=a) (b:=b) q (by omega) (by omega) (by omega))
             have HISE:Hid (isE a b (eat es q)=((eat es q==((a:Int),(b:Int)))||(eat es q==((b:Int),(a:Int))))):=rfl
             have HNV:=Hid.mk' NV
             clear NV
             have hbel:be<wr.heap.size:=HNV.out.r.g.lt hbe
             generalize eat es q=x at *
             obtain ⟨x1,x2⟩:=x
             simp only at c0 c1
             have q1:=eqPair x1 x2 a b
             have q2:=eqPair x1 x2 b a
             by_cases m1:x1=a∧x2=b
             ·have HC:Hid (isE a b (x1,x2)=true):=by show _=_;rw [HISE.out];simp [m1.1,m1.2]
              have m1':(x1==(a:Int)&&x2==(b:Int))=true:=by simp [m1.1,m1.2]
              rw [m1'] at q1
              clear m1 m1' q2
              obtain ⟨va,vk,rfl⟩:=HNV.out.q.shape
              have HYE:=Hid.mk' (HY.out HC.out)
              have NV2:=Hid.mk' (HNV.out.gr (((Gr.refl wr).alloc (.cells #[.int .i64 x1,.int .i64 x2] 81)).alloc (.cells #[.int .i64 (a:Int),.int .i64 (b:Int),.slice none 0 0,.slice none 0 0] 196)))
              have hTBl:w1.heap.size<wr.heap.size:=blk_lt HNV.out.r.t
              have hln:=HLL.out
              have t1:wr.cell? ⟨w1.heap.size,1,none⟩=some (.slice va (lkP es p a b q).length vk):=by rw [cell_of_row _ _ _ _ _ _ HNV.out.r.t];rfl
              clear HNO HY HISE
              go_wp2_with (at_builtin;refine wpList_append_q rfl _ _ 162 rfl 196 l0 _ 4 64 Tryz.underlying162 li lz0 lz1 lz2 rfl _ _ _ _ rfl NV2.out.q ⟨wr.heap.size+1,0,none⟩ 1 1 [.int .i64 (a:Int),.int .i64 (b:Int),.slice none 0 0,.slice none 0 0] rfl (by omega) rfl (World.news_of_block (new_atK (by simp))) ?k2 ?k3 ?k4 ?_)
              case k2=>intro t ht;simp at ht;rcases ht with rfl | rfl | rfl | rfl <;> rfl
              case k3=>unfold maxLen;omega
              case k4=>omega
              intro v5 w5 hq5 hg5 ho5 _
              obtain ⟨ya,yk,rfl⟩:=hq5.shape
              have N6:=Hid.mk' (NV2.out.put a b hq5 hg5 (by rw [size_alloc',size_alloc'];exact ho5))
              have b5:w5.heap[w1.heap.size]? = some (.cells #[.slice (some ⟨w.heap.size,0,none⟩) p p,.slice va (lkP es p a b q).length vk,.slice none 0 0] 165 (0,0)):=(hg5.block w1.heap.size (by rw [size_alloc',size_alloc'];omega) (fun e=>(NV2.out.q.own _ e.symm).1.2.2 rfl)).trans NV2.out.r.t
              have hc5:w5.cell? ⟨w1.heap.size,1,none⟩=some (.slice va (lkP es p a b q).length vk):=by rw [cell_of_row _ _ _ _ _ _ b5];rfl
              have hf5:=frz0 b5 1
              clear hq5 hg5 ho5 NV2 b5 t1 c0 c1
              go_wp2_with fail
              exact ⟨⟨q+1,hql2,by simp,by rw [HYE.out];exact ⟨_,N6.out⟩⟩,measM_dec _ _ hql2⟩
             by_cases m2:x1=b∧x2=a
             ·have HC:Hid (isE a b (x1,x2)=true):=by show _=_;rw [HISE.out];simp [m2.1,m2.2]
              have m1':(x1==(a:Int)&&x2==(b:Int))=false:=by simp;exact fun h1 h2=>m1 ⟨h1,h2⟩
              have m2':(x1==(b:Int)&&x2==(a:Int))=true:=by simp [m2.1,m2.2]
              rw [m1'] at q1
              rw [m2'] at q2
              clear m1 m1' m2 m2'
              obtain ⟨va,vk,rfl⟩:=HNV.out.q.shape
              have HYE:=Hid.mk' (HY.out HC.out)
              have NV2:=Hid.mk' (HNV.out.gr (((Gr.refl wr).alloc (.cells #[.int .i64 x1,.int .i64 x2] 81)).alloc (.cells #[.int .i64 (a:Int),.int .i64 (b:Int),.slice none 0 0,.slice none 0 0] 196)))
              have hTBl:w1.heap.size<wr.heap.size:=blk_lt HNV.out.r.t
              have hln:=HLL.out
              have t1:wr.cell? ⟨w1.heap.size,1,none⟩=some (.slice va (lkP es p a b q).length vk):=by rw [cell_of_row _ _ _ _ _ _ HNV.out.r.t];rfl
              clear HNO HY HISE
              go_wp2_with (at_builtin;refine wpList_append_q rfl _ _ 162 rfl 196 l0 _ 4 64 Tryz.underlying162 li lz0 lz1 lz2 rfl _ _ _ _ rfl NV2.out.q ⟨wr.heap.size+1,0,none⟩ 1 1 [.int .i64 (a:Int),.int .i64 (b:Int),.slice none 0 0,.slice none 0 0] rfl (by omega) rfl (World.news_of_block (new_atK (by simp))) ?k2 ?k3 ?k4 ?_)
              case k2=>intro t ht;simp at ht;rcases ht with rfl | rfl | rfl | rfl <;> rfl
              case k3=>unfold maxLen;omega
              case k4=>omega
              intro v5 w5 hq5 hg5 ho5 _
              obtain ⟨ya,yk,rfl⟩:=hq5.shape
              have N6:=Hid.mk' (NV2.out.put a b hq5 hg5 (by rw [size_alloc',size_alloc'];exact ho5))
              have b5:w5.heap[w1.heap.size]? = some (.cells #[.slice (some ⟨w.heap.size,0,none⟩) p p,.slice va (lkP es p a b q).length vk,.slice none 0 0] 165 (0,0)):=(hg5.block w1.heap.size (by rw [size_alloc',size_alloc'];omega) (fun e=>(NV2.out.q.own _ e.symm).1.2.2 rfl)).trans NV2.out.r.t
              have hc5:w5.cell? ⟨w1.heap.size,1,none⟩=some (.slice va (lkP es p a b q).length vk):=by rw [cell_of_row _ _ _ _ _ _ b5];rfl
              have hf5:=frz0 b5 1
              clear hq5 hg5 ho5 NV2 b5 t1 c0 c1
              go_wp2_with fail
              exact ⟨⟨q+1,hql2,by simp,by rw [HYE.out];exact ⟨_,N6.out⟩⟩,measM_dec _ _ hql2⟩
             ·have HC:Hid (isE a b (x1,x2)=false):=by
               show _=_
               rw [HISE.out, ← Bool.not_eq_true]
               simp only [Bool.or_eq_true,beq_iff_eq,Prod.mk.injEq]
               exact fun h=>h.elim m1 m2
              have m1':(x1==(a:Int)&&x2==(b:Int))=false:=by simp;exact fun h1 h2=>m1 ⟨h1,h2⟩
              have m2':(x1==(b:Int)&&x2==(a:Int))=false:=by simp;exact fun h1 h2=>m2 ⟨h1,h2⟩
              rw [m1'] at q1
              rw [m2'] at q2
              have HYE:=Hid.mk' (HNO.out HC.out)
              clear m1 m1' m2 m2' HNO HY HISE
              go_wp2_with fail
              exact ⟨⟨q+1,hql2,by simp,by rw [HYE.out];exact ⟨_,HNV.out.gr ((Gr.refl wr).alloc _)⟩⟩,measM_dec _ _ hql2⟩
            ·have hqe2:q=es.length:=by omega
             subst hqe2
             go_wp2_with fail
             exact ⟨⟨b+1,hbl,by simp,by rw [lkP_zero, ← lkP_all];exact NQ⟩,measM_dec _ _ hbl⟩
          ·have hbe2:b=p:=by omega
           subst hbe2
           go_wp2_with fail
           exact ⟨⟨a+1,hal,by simp,by rw [lkP_zero,lkA_succ];rw [lkP_zero] at NB;simpa [lkR] using NB⟩,measM_dec _ _ hal⟩
        ·have hae:a=p:=by omega
         subst hae
         have HFN:Hid (∃ R v,Rt A ⟨a,w1.heap.size,w.heap.size,a⟩ R wr (fun _=>(none,0)) (fun _=>[]) v ((lkA es a a).map ln0) (.slice none 0 0) []∧Fr (fun _=>.no) R w wr):=by
          obtain ⟨v,NV⟩:=NA.out
          rw [lkP_zero] at NV
          have NV':Rn3 w a w.heap.size w1.heap.size (lkA es a a) v wr:=by simpa [lkR] using NV
          obtain ⟨R,h1,h2⟩:=NV'.done hn1 hn2 HA.out
          exact ⟨R,v,h1,h2⟩
         clear NA
         go_wp2_with fail
         obtain ⟨R,v,h1,h2⟩:=HFN.out
         exact bodyPost_ret (v:=.tuple #[.pointer (some ⟨w1.heap.size,0,none⟩),.int .i64 0]) (by simp [results,Tryz.results57,go_sem]) rfl (Or.inr ⟨HT.out,⟨a,w1.heap.size,w.heap.size,a⟩,R,v,_,rfl,rfl,h1,by rw [List.map_map];rfl,h2⟩)
theorem kext:∀ {l m:List Ky},l.Pairwise (fun x y=>klt x y=true)→m.Pairwise (fun x y=>klt x y=true)→(∀ x,x∈l↔x∈m)→l=m
 | [],[],_,_,_=>rfl
 | [],b::t,_,_,h=>by have:=(h b).2 (by simp);cases this
 | a::t,[],_,_,h=>by have:=(h a).1 (by simp);cases this
 | a::t,b::u,hl,hm,h=>by
  have ha:=List.pairwise_cons.1 hl
  have hb:=List.pairwise_cons.1 hm
  have hab:a=b:=by
   rcases List.mem_cons.1 ((h a).1 (by simp)) with e | e
   ·exact e
   ·rcases List.mem_cons.1 ((h b).2 (by simp)) with e' | e'
    ·exact e'.symm
    ·have h1:=ha.1 b e'
     have h2:=hb.1 a e
     rw [klt_asymm h1] at h2;cases h2
  subst hab
  congr 1
  refine kext ha.2 hb.2 (fun x=>?_)
  constructor
  ·intro hx
   rcases List.mem_cons.1 ((h x).1 (by simp [hx])) with e | e
   ·subst e;have:=ha.1 x hx;rw [klt_irr] at this;cases this
   ·exact e
  ·intro hx
   rcases List.mem_cons.1 ((h x).2 (by simp [hx])) with e | e
   ·subst e;have:=hb.1 x hx;rw [klt_irr] at this;cases this
   ·exact e
def keysOf (s:Ts) (b:Nat) (from_:Int):List Ky:=((s.held b).filter fun h=>h.fr==from_).map fun h=>h.key
theorem keysFrom_w {T:Tc} {r:Nat→Rl} {w:World} {cs:List (Pc (List Atr))} {s:Ts} (hT:Tf T r w cs s) (hm:Sm T s) {b:Nat} (hb:b<T.nb) (hs:Srt (s.held b)) (from_:Int) :
  Calls Tryz.prog 41 #[.pointer (some ⟨T.TB,0,none⟩),.int .i64 b,.int .i64 from_] w fun e w'=>∃ v,e = .returned v∧w'.ownsRow w.heap.size 112 2 v (keysOf s b from_).length (kcells (keysOf s b from_))∧Gr w w':=by
 obtain ⟨cls,⟨Xs,qs,h1,hV⟩,_⟩:=hT
 obtain ⟨es,clock,hp⟩:=h1.hp hb
 refine (keysFrom_any T.TB T.HB 0 T.nb T.hcap b (T.MB b) from_ (Xs b) es clock w h1.b.c0 (by rw [Nat.zero_add];exact h1.b.hb b hb) hb (Nat.le_trans (vw_len h1 hV hb) (hm.h b hb)) hp).mono ?_
 rintro e w' ⟨v,L,h2,h3,h4,h5,h6⟩
 have e1:L=keysOf s b from_:=by
  refine kext h4 ?_ (fun k=>?_)
  ·unfold keysOf
   rw [List.pairwise_map]
   exact hs.filter _
  ·rw [h5]
   unfold keysOf
   simp only [List.mem_map,List.mem_filter,beq_iff_eq]
   constructor
   ·rintro ⟨x,hx,h7,rfl⟩
    exact ⟨x.1,⟨(hV.held b hb x.1).2 ⟨x,hx,rfl⟩,h7⟩,rfl⟩
   ·rintro ⟨g,⟨h7,h8⟩,rfl⟩
    obtain ⟨x,hx,rfl⟩:=(hV.held b hb g).1 h7
    exact ⟨x,hx,h8,rfl⟩
 rw [← e1]
 exact ⟨v,h2,h3,h6⟩
theorem hasLink_w {T:Tc} {r:Nat→Rl} {w:World} {cs:List (Pc (List Atr))} {s:Ts} (hT:Tf T r w cs s) (k:Ky) (h1:I64 k.1) (h2:I64 k.2) (q:Bool) (hq:q=true ↔ ∃ a b:Nat,k=((a:Int),(b:Int))∧T.adj a b=true) :
  Calls Tryz.prog 40 #[.pointer (some ⟨T.TB,0,none⟩),.int .i64 k.1,.int .i64 k.2] w fun e w'=>e = .returned (.bool q)∧w'=w:=by
 obtain ⟨cls,⟨Xs,qs,t,hV⟩,_⟩:=hT
 obtain ⟨m,es,clock,hm,_,hall,hev⟩:=t.l.lk
 refine hasLink_any T.TB T.LB k m es clock q w h1 h2 t.b.c2 hm (hq.trans ⟨?_,?_⟩)
 ·rintro ⟨a,b,rfl,hab⟩;exact hev a b hab
 ·rintro ⟨v,hv⟩
  obtain ⟨a,b,e,hab,_⟩:=hall _ v hv
  exact ⟨a,b,pk_inj e,hab⟩
set_option maxRecDepth 100000 in
set_option maxHeartbeats 4000000 in
theorem Held_yes (T:Tc) (r:Nat→Rl) (w:World) (cs:List (Pc (List Atr))) (s:Ts) (b:Nat) (from_:Int) (hT:Tf T r w cs s) (hm:Sm T s) (hb:b<T.nb) (hs:Srt (s.held b)) (hf:from_ = -1 ∨ ∃ a:Nat,from_=(a:Int)∧T.adj b a=true) :
  Calls Tryz.prog 16 #[.pointer (some ⟨T.TB,0,none⟩),.int .i64 b,.int .i64 from_] w fun e w'=>∃ v,e = .returned (.tuple #[v,.int .i64 0])∧w'.ownsRow w.heap.size 112 2 v (keysOf s b from_).length (kcells (keysOf s b from_))∧Gr w w':=by
 have HBR:=Hid.mk' (hasBroker_in T r w b hT.b hb)
 have KF:Hid (∀ W,Gr w W→Calls Tryz.prog 41 #[.pointer (some ⟨T.TB,0,none⟩),.int .i64 b,.int .i64 from_] W fun e w'=>∃ v,e = .returned v∧w'.ownsRow W.heap.size 112 2 v (keysOf s b from_).length (kcells (keysOf s b from_))∧Gr W w'):=fun W g=>keysFrom_w (hT.gr g) hm hb hs from_
 have hnb:=hT.b.nb8
 have LOW:Hid (∀ (W w':World) (v:Value) (n:Nat) (xs:List Value),Gr w W→w'.ownsRow W.heap.size 112 2 v n xs→w'.ownsRow w.heap.size 112 2 v n xs):=fun W w' v n xs g o=>⟨o.1,o.2.imp id (fun ⟨a1,a2,a3,a4,a5,a6⟩=>⟨a1,a2,a3,a4,Nat.le_trans g.size a5,a6⟩)⟩
 generalize keysOf s b from_=KS at *
 rcases hf with rfl | ⟨a,rfl,hab⟩
 ·clear hT hm hs
  go_enter Tryz.func16,Tryz.ntmps16
  go_wp2_with fail
  refine HBR.out.mono ?_
  rintro e w1 ⟨rfl,g1⟩
  have KF1:=Hid.mk' (KF.out w1 g1)
  have G1:=Hid.mk' g1
  clear HBR g1 KF
  go_wp2_with fail
  refine KF1.out.mono ?_
  rintro e w2 ⟨v,rfl,o2,g2⟩
  have O2:=Hid.mk' (LOW.out _ _ _ _ _ G1.out o2)
  have G2:=Hid.mk' (Gr.call G1.out g2)
  obtain ⟨va,vm,vk,rfl⟩:=owns_slice o2
  clear KF1 o2 g2
  go_wp2_with fail
  go_ret2
  exact ⟨_,rfl,O2.out,G2.out⟩
 ·have hlt:=hT.b.adj b a hab
  have HL:Hid (∀ W,Gr w W→Calls Tryz.prog 40 #[.pointer (some ⟨T.TB,0,none⟩),.int .i64 b,.int .i64 a] W fun e w'=>e = .returned (.bool true)∧w'=W):=fun W g=>hasLink_w (hT.gr g) ((b:Int),(a:Int)) ⟨by omega,by omega⟩ ⟨by omega,by omega⟩ true ⟨fun _=>⟨b,a,rfl,hab⟩,fun _=>rfl⟩
  have hne:((a:Int) == -1)=false:=by simp
  clear hT hm hs
  go_enter Tryz.func16,Tryz.ntmps16
  go_wp2_with fail
  refine HBR.out.mono ?_
  rintro e w1 ⟨rfl,g1⟩
  have KF1:=Hid.mk' (KF.out w1 g1)
  have HL1:=Hid.mk' (HL.out w1 g1)
  have G1:=Hid.mk' g1
  clear HBR g1 KF HL
  go_wp2_with fail
  refine HL1.out.mono ?_
  rintro e wx ⟨rfl,hw⟩
  have hw':=hw.symm
  clear hw HL1
  subst hw'
  go_wp2_with fail
  refine KF1.out.mono ?_
  rintro e w2 ⟨v,rfl,o2,g2⟩
  have O2:=Hid.mk' (LOW.out _ _ _ _ _ G1.out o2)
  have G2:=Hid.mk' (Gr.call G1.out g2)
  obtain ⟨va,vm,vk,rfl⟩:=owns_slice o2
  clear KF1 o2 g2
  go_wp2_with fail
  go_ret2
  exact ⟨_,rfl,O2.out,G2.out⟩
set_option maxRecDepth 100000 in
set_option maxHeartbeats 4000000 in
theorem Held_no (T:Tc) (r:Nat→Rl) (w:World) (cs:List (Pc (List Atr))) (s:Ts) (b:Nat) (from_:Int) (hT:Tf T r w cs s) (hb:b<T.nb) (hi:I64 from_) (h1:from_ ≠ -1) (hf:∀ a:Nat,from_=(a:Int)→T.adj b a=false) :
  Calls Tryz.prog 16 #[.pointer (some ⟨T.TB,0,none⟩),.int .i64 b,.int .i64 from_] w fun e w'=>e = .returned (.tuple #[.slice none 0 0,.int .i64 5])∧Gr w w':=by
 have HBR:=Hid.mk' (hasBroker_in T r w b hT.b hb)
 have hnb:=hT.b.nb8
 have HL:Hid (∀ W,Gr w W→Calls Tryz.prog 40 #[.pointer (some ⟨T.TB,0,none⟩),.int .i64 b,.int .i64 from_] W fun e w'=>e = .returned (.bool false)∧w'=W):=fun W g=>hasLink_w (hT.gr g) ((b:Int),from_) ⟨by omega,by omega⟩ hi false ⟨(fun h=>by cases h),(fun ⟨x,y,e,hxy⟩=>by
  injection e with e1 e2
  have:x=b:=by omega
  rw [this,hf y e2] at hxy;cases hxy)⟩
 have hne:(from_ == -1)=false:=by simpa using h1
 clear hT
 go_enter Tryz.func16,Tryz.ntmps16
 go_wp2_with fail
 refine HBR.out.mono ?_
 rintro e w1 ⟨rfl,g1⟩
 have HL1:=Hid.mk' (HL.out w1 g1)
 have G1:=Hid.mk' g1
 clear HBR g1 HL
 go_wp2_with fail
 refine HL1.out.mono ?_
 rintro e wx ⟨rfl,hw⟩
 have hw':=hw.symm
 clear hw HL1
 subst hw'
 go_wp2_with fail
 go_ret2
 exact ⟨rfl,G1.out⟩
end Go.Proofs.YtecnfgikbmcgoaaGreat
