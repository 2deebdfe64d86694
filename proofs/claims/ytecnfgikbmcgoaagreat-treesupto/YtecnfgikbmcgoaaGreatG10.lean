import Derived.Test.YtecnfgikbmcgoaaGreatG9
import Derived.Test.YtecnfgikbmcgoaaGreatG1
import Derived.Test.YtecnfgikbmcgoaaGreatG3
namespace Go.Proofs.YtecnfgikbmcgoaaGreat
open Go.RowKit
open Go.Maps (Keyed)
open Go.ChangeMaps (setBlock)
structure Hl (X:List Hm) (es:Array MapEntry) (p:Hm→Bool) (seen:Array Nat) (L:List Hm):Prop where
 mem:∀ x,x∈L ↔ ∃ e∈es.toList,seen.contains e.born=true∧x∈X∧e.key=pk x.1.key∧p x=true
 nd:L.Pairwise fun x y=>x.1.key≠y.1.key
theorem Hl.len {X:List Hm} {es:Array MapEntry} {p:Hm→Bool} {seen:Array Nat} {L:List Hm} (h:Hl X es p seen L):L.length≤X.length:=by
 have:=keys_le (L.map fun x=>x.1.key) (X.map fun x=>x.1.key) (by rw [List.pairwise_map];exact h.nd) (fun k hk=>by
  obtain ⟨x,hx,rfl⟩:=List.mem_map.1 hk
  obtain ⟨_,_,_,hx',_⟩:=(h.mem x).1 hx
  exact List.mem_map.2 ⟨x,hx',rfl⟩)
 simpa using this
theorem Hl.init (X:List Hm) (es:Array MapEntry) (p:Hm→Bool):Hl X es p #[] []:=⟨fun x=>by simp,List.Pairwise.nil⟩
theorem Hl.skip {w:World} {MB clock:Nat} {X:List Hm} {es:Array MapEntry} {p:Hm→Bool} {seen:Array Nat} {L:List Hm} (h:Hl X es p seen L) (hp:Hp w MB X es clock) {e:MapEntry} (he:e∈es.toList) {x:Hm} (hx:x∈X) (hk:e.key=pk x.1.key) (hf:p x=false):Hl X es p (seen.push e.born) L:=by
 refine ⟨fun y=>?_,h.nd⟩
 rw [h.mem y]
 constructor
 ·rintro ⟨e',h1,h2,h3⟩
  exact ⟨e',h1,by rw [contains_push,h2];rfl,h3⟩
 ·rintro ⟨e',h1,h2,hy,h4,h5⟩
  rw [contains_push] at h2
  rcases Bool.or_eq_true _ _ ▸ h2 with h2 | h2
  ·exact ⟨e',h1,h2,hy,h4,h5⟩
  ·have hee:e'=e:=born_inj hp.mp.bnd h1 he (beq_iff_eq.1 h2)
   subst hee
   have:y=x:=hp.inj hy hx (h4.symm.trans hk)
   subst this
   rw [h5] at hf;cases hf
theorem Hl.take {w:World} {MB clock:Nat} {X:List Hm} {es:Array MapEntry} {p:Hm→Bool} {seen:Array Nat} {L:List Hm} (h:Hl X es p seen L) (hp:Hp w MB X es clock) {e:MapEntry} (he:e∈es.toList) (hns:seen.contains e.born=false) {x:Hm} (hx:x∈X) (hk:e.key=pk x.1.key) (hf:p x=true):Hl X es p (seen.push e.born) (L++[x]):=by
 refine ⟨fun y=>?_,?_⟩
 ·rw [List.mem_append,h.mem y,List.mem_singleton]
  constructor
  ·rintro (⟨e',h1,h2,h3⟩ | rfl)
   ·exact ⟨e',h1,by rw [contains_push,h2];rfl,h3⟩
   ·exact ⟨e,he,by rw [contains_push];simp,hx,hk,hf⟩
  ·rintro ⟨e',h1,h2,hy,h4,h5⟩
   rw [contains_push] at h2
   rcases Bool.or_eq_true _ _ ▸ h2 with h2 | h2
   ·exact Or.inl ⟨e',h1,h2,hy,h4,h5⟩
   ·have hee:e'=e:=born_inj hp.mp.bnd h1 he (beq_iff_eq.1 h2)
    subst hee
    exact Or.inr (hp.inj hy hx (h4.symm.trans hk))
 ·rw [List.pairwise_append]
  refine ⟨h.nd,List.pairwise_singleton _ _,fun a ha b hb=>?_⟩
  simp only [List.mem_singleton] at hb
  subst hb
  intro hab
  obtain ⟨e',h1,h2,hy,h4,h5⟩:=(h.mem a).1 ha
  have:a=b:=hp.inj hy hx (by rw [hab])
  subst this
  have hee:e'=e:=by
   have hd:=hp.mp.nod
   rw [← hp.mp.ent,List.map_map] at hd
   exact inj_map hd h1 he (h4.trans hk.symm)
  subst hee
  rw [h2] at hns;cases hns
theorem Hl.all {X:List Hm} {w:World} {MB clock:Nat} {es:Array MapEntry} {p:Hm→Bool} {seen:Array Nat} {L:List Hm} (h:Hl X es p seen L) (hp:Hp w MB X es clock) (h0:(leftOf es seen).size=0) (x:Hm):x∈L↔x∈X∧p x=true:=by
 rw [h.mem x]
 constructor
 ·rintro ⟨_,_,_,hx,_,h5⟩;exact ⟨hx,h5⟩
 ·rintro ⟨hx,h5⟩
  obtain ⟨e,he,h1,_⟩:=hp.all hx
  exact ⟨e,he,all_seen es seen h0 e he,hx,h1,h5⟩
def woP (X:List Hm) (n:Int) (h:Hw) (x:Hm):Bool := !(x.1.fr==n)&&hides cov h x.1&&isT cov (X.map (·.1)) n x.1
set_option maxRecDepth 100000 in
set_option maxHeartbeats 4000000 in
theorem toldWithout_any (TB HB hoff nb hcap b MB:Nat) (n:Int) (h:Hw) (a':Option Addr) (c':Nat) (X:List Hm) (es:Array MapEntry) (clock:Nat) (m:Int) (w:World)
  (c0:w.cell? ⟨TB,0,none⟩=some (.slice (some ⟨HB,hoff,none⟩) nb hcap)) (cb:w.cell? ⟨HB,hoff+b,none⟩=some (.map (some MB))) (hb:b<nb) (hTB:TB<w.heap.size) (hHB:HB<w.heap.size) (hX:X.length≤1048576)
  (hp:Hp w MB X es clock) (hh:FiM w a' h.f) (hM:Ml m w) :
  Calls Tryz.prog 79 #[.pointer (some ⟨TB,0,none⟩),.int .i64 b,.int .i64 n,.agg (hv h a' c')] w fun e w'=>∃ v L,e = .returned v∧w'.ownsRow w.heap.size 121 4 v L.length (hcells L)∧L.Pairwise (fun x y=>klt x.1.key y.1.key=true)∧(∀ x,x∈L↔x∈X∧woP X n h x=true)∧Gr w w':=by
 obtain ⟨i0,hi,hz0,hz1,hz2⟩:=info_parts Tryz.infoHold
 have HP:=Hid.mk' hp
 have HH:=Hid.mk' hh
 have HM:=Hid.mk' hM
 have HC0:=Hid.mk' c0
 have HCB:=Hid.mk' cb
 clear hp hh hM
 unfold hv
 have ga:Gr w (w.alloc (.cells #[.int .i64 h.key.1,.int .i64 h.key.2,.slice a' h.f.length c',.int .i64 h.fr] 121)):=(Gr.refl w).alloc _
 have hrg:=run_range_map (P:=Tryz.prog) (w.alloc (.cells #[.int .i64 h.key.1,.int .i64 h.key.2,.slice a' h.f.length c',.int .i64 h.fr] 121)) 123 112 121 MB es clock Tryz.underlying123 (HP.out.gr ga).mp.blk
 have hsz:(w.alloc (.cells #[.int .i64 h.key.1,.int .i64 h.key.2,.slice a' h.f.length c',.int .i64 h.fr] 121)).heap.size=w.heap.size+1:=by simp
 rw [hsz] at hrg
 have GA:=Hid.mk' ga
 clear ga hsz
 go_enter Tryz.func79,Tryz.ntmps79
 go_wp2_with fail
 have H0:=Hid.mk' (blk_gr ((Gr.refl _).alloc (.mapIter (some MB) clock #[] clock)) (heap_alloc_new w (.cells #[.int .i64 h.key.1,.int .i64 h.key.2,.slice a' h.f.length c',.int .i64 h.fr] 121)))
 have I0:Hid (((w.alloc (.cells #[.int .i64 h.key.1,.int .i64 h.key.2,.slice a' h.f.length c',.int .i64 h.fr] 121)).alloc (.mapIter (some MB) clock #[] clock)).heap[w.heap.size+1]? = some (.mapIter (some MB) clock #[] clock)):=by
  have:=heap_alloc_new (w.alloc (.cells #[.int .i64 h.key.1,.int .i64 h.key.2,.slice a' h.f.length c',.int .i64 h.fr] 121)) (.mapIter (some MB) clock #[] clock)
  rw [show (w.alloc (.cells #[.int .i64 h.key.1,.int .i64 h.key.2,.slice a' h.f.length c',.int .i64 h.fr] 121)).heap.size=w.heap.size+1 by simp] at this
  exact this
 have G0:=Hid.mk' (GA.out.alloc (.mapIter (some MB) clock #[] clock))
 clear hrg GA c0 cb
 go_loopw [9] (fun v wr=>∃ (seen:Array Nat) (L:List Hm),Hid (wr.heap[w.heap.size+1]? = some (.mapIter (some MB) clock seen clock))∧Hid (Gr w wr)∧Hid (wr.heap[w.heap.size]? = some (.cells #[.int .i64 h.key.1,.int .i64 h.key.2,.slice a' h.f.length c',.int .i64 h.fr] 121 (0,0))) ∧
  Hid (wr.ownsRow (w.heap.size+1) 121 4 v L.length (hcells L))∧Hid (Hl X es (woP X n h) seen L)) (fun _ wr=>(leftOf es (wr.iterSeen (w.heap.size+1))).size)
 case atStart=>exact ⟨#[],[],I0,G0,H0,World.ownsRow_nil _ _ _ _,Hl.init X es _⟩
 case round =>
  clear I0 G0 H0
  obtain ⟨seen,L,IT,G,HB1,O,KL⟩:=hrel
  obtain ⟨va,vm,vk,rfl⟩:=owns_slice O.out
  have HMS:Hid (leftOf es (wr.iterSeen (w.heap.size+1))=leftOf es seen):=by show _=_;unfold World.iterSeen;rw [IT.out]
  have HLN:=Hid.mk' KL.out.len
  rcases next_law (HP.out.gr G.out) IT.out (Nat.le_succ _) G.out with ⟨h0,hnx⟩ | ⟨e,he,W2,hnx,hen,hit2,g2,hoth,hsz2⟩
  ·have HA:=Hid.mk' (KL.out.all HP.out h0)
   have HND:=Hid.mk' KL.out.nd
   have O1:=Hid.mk' (show wr.ownsRow w.heap.size 121 4 (.slice va vm vk) L.length (hcells L) from ⟨O.out.1,by
    rcases O.out.2 with h1 | ⟨b1,c1,u1,q1,q2,q3⟩
    ·exact Or.inl h1
    ·exact Or.inr ⟨b1,c1,u1,q1,by omega,q3⟩⟩)
   clear h0 O KL HMS HB1 IT
   obtain ⟨va',vk',he',hsh⟩:=owns_shape O1.out
   obtain ⟨rfl,rfl,rfl⟩:va=va'∧vm=L.length∧vk=vk':=by injection he' with h1 h2 h3;exact ⟨h1,h2,h3⟩
   clear he'
   by_cases hL:L=[]
   ·subst hL
    have HS:=Hid.mk' (sortHolds_none va vk wr)
    go_wp2_with fail
    refine HS.out.mono ?_
    rintro e w3 ⟨rfl,g3⟩
    have G3:=Hid.mk' (Gr.call G.out g3)
    have O3:=Hid.mk' (ownsGr O1.out g3)
    go_wp2_with fail
    go_ret
    exact ⟨_,[],rfl,O3.out,List.Pairwise.nil,HA.out,G3.out⟩
   ·obtain ⟨g,rfl⟩:=hsh (by cases L with | nil=>exact absurd rfl hL | cons a t=>simp)
    have HS:=Hid.mk' (sortHolds_some L g vk w wr (by have:=HLN.out;omega) G.out O1.out)
    clear hL hsh
    go_wp2_with fail
    refine HS.out.mono ?_
    rintro e w3 ⟨rfl,L',hp,hs,ho,g3⟩
    have hlen:=hp.length_eq
    have G3:=Hid.mk' g3
    have O3:=Hid.mk' ho
    rw [hlen] at O3
    have SR:Hid (L'.Pairwise fun x y=>klt x.1.key y.1.key=true):=by
     have hnd:L'.Pairwise fun x y=>x.1.key≠y.1.key:=hp.symm.pairwise HND.out (fun {a b} h=>h.symm)
     refine List.Pairwise.imp ?_ (List.Pairwise.and hs hnd)
     rintro a b ⟨h1,h2⟩
     rcases klt_tri a.1.key b.1.key with h3 | h3 | h3
     ·exact h3
     ·exact absurd h3 h2
     ·rw [h3] at h1;cases h1
    have MB':Hid (∀ x,x∈L'↔x∈X∧woP X n h x=true):=fun x=>(hp.mem_iff).trans (HA.out x)
    have HLE:=Hid.mk' hlen
    clear hp hs ho g3 hlen
    go_wp2_with fail
    go_ret
    exact ⟨_,L',rfl,by rw [HLE.out];exact O3.out,SR.out,MB'.out,G3.out⟩
  ·obtain ⟨x,hx,hk,hv'⟩:=HP.out.ent (mem_left he).1
   rw [hv'] at hnx hen
   rw [hk] at hnx hen
   unfold hv pk at hnx hen
   have IT2:=Hid.mk' hit2
   have G2:=Hid.mk' g2
   have B2:Hid (W2.heap[w.heap.size]? = some (.cells #[.int .i64 h.key.1,.int .i64 h.key.2,.slice a' h.f.length c',.int .i64 h.fr] 121 (0,0))):=(hoth _ (by omega)).trans HB1.out
   have F2:=Hid.mk' ((HP.out.fi x hx).gr g2)
   have HH2:=Hid.mk' (HH.out.gr g2)
   have hW2:w.heap.size+2≤W2.heap.size:=blk_lt IT2.out
   have HNE:Hid (Value.ownBlock (.slice va vm vk)≠some (w.heap.size+1)):=by
    intro h5
    rcases O.out.2 with ⟨h6,_⟩ | ⟨b',cap',cur,h6,_,h7,_⟩
    ·rw [h6] at h5;simp [Value.ownBlock] at h5
    ·rw [h6] at h5
     have:b'=w.heap.size+1:=by simpa [Value.ownBlock] using h5
     subst this
     rw [IT.out] at h7;cases h7
   have O2:Hid (W2.ownsRow (w.heap.size+1) 121 4 (.slice va vm vk) L.length (hcells L)):=by
    obtain ⟨q1,q2⟩:=O.out
    refine ⟨q1,?_⟩
    rcases q2 with q2 | ⟨b',cap',cur,h6,h8,h7,q3⟩
    ·exact Or.inl q2
    ·refine Or.inr ⟨b',cap',cur,h6,h8,?_,q3⟩
     rw [hoth b' (fun h9=>HNE.out (by rw [h6,h9];rfl))];exact h7
   have NXT:Hid (∀ (L':List Hm),Hl X es (woP X n h) (seen.push e.born) L' → ∀ (v':Value) (w':World),w'.heap[w.heap.size+1]? = some (.mapIter (some MB) clock (seen.push e.born) clock)→Gr w w'→w'.heap[w.heap.size]? = some (.cells #[.int .i64 h.key.1,.int .i64 h.key.2,.slice a' h.f.length c',.int .i64 h.fr] 121 (0,0))→w'.ownsRow (w.heap.size+1) 121 4 v' L'.length (hcells L') →
     (∃ (seen:Array Nat) (L:List Hm),Hid (w'.heap[w.heap.size+1]? = some (.mapIter (some MB) clock seen clock))∧Hid (Gr w w')∧Hid (w'.heap[w.heap.size]? = some (.cells #[.int .i64 h.key.1,.int .i64 h.key.2,.slice a' h.f.length c',.int .i64 h.fr] 121 (0,0)))∧Hid (w'.ownsRow (w.heap.size+1) 121 4 v' L.length (hcells L))∧Hid (Hl X es (woP X n h) seen L)) ∧
     (leftOf es (w'.iterSeen (w.heap.size+1))).size<(leftOf es (wr.iterSeen (w.heap.size+1))).size):=by
    intro L' hL' v' w' h1 h2 h3 h4
    refine ⟨⟨_,L',h1,h2,h3,h4,hL'⟩,?_⟩
    rw [HMS.out]
    unfold World.iterSeen
    rw [h1]
    exact left_shrinks es seen e he
   have SKIP:=Hid.mk' (fun hf=>KL.out.skip HP.out (mem_left he).1 hx hk hf)
   have TAKE:=Hid.mk' (fun hf=>KL.out.take HP.out (mem_left he).1 (mem_left he).2 hx hk hf)
   have GX:=Hid.mk' ((Gr.refl W2).alloc (.cells #[.int .i64 x.1.key.1,.int .i64 x.1.key.2,.slice x.2.1 x.1.f.length x.2.2,.int .i64 x.1.fr] 121))
   clear he hk hx hit2 g2 hoth hsz2 hv' G IT O KL HMS HB1
   have hlt2:w.heap.size<W2.heap.size:=by omega
   have b0:W2.cell? ⟨w.heap.size,0,none⟩=some (.int .i64 h.key.1):=by rw [cell_of_row _ _ _ _ _ _ B2.out];rfl
   have b1:W2.cell? ⟨w.heap.size,1,none⟩=some (.int .i64 h.key.2):=by rw [cell_of_row _ _ _ _ _ _ B2.out];rfl
   have b2:W2.cell? ⟨w.heap.size,2,none⟩=some (.slice a' h.f.length c'):=by rw [cell_of_row _ _ _ _ _ _ B2.out];rfl
   have b3:W2.cell? ⟨w.heap.size,3,none⟩=some (.int .i64 h.fr):=by rw [cell_of_row _ _ _ _ _ _ B2.out];rfl
   by_cases hn:x.1.fr=n
   ·subst hn
    have N1:=Hid.mk' (NXT.out L (SKIP.out (by simp [woP])) (.slice va vm vk) _ ((GX.out.block _ (by omega)).trans IT2.out) (Gr.call G2.out GX.out) (blk_gr GX.out B2.out) (ownsGr O2.out GX.out))
    clear NXT SKIP TAKE
    go_wp2_with fail
    exact N1.out
   ·have hn':(x.1.fr==n)=false:=by simpa using hn
    go_wp2_with fail
    refine (hides_any h x.1 a' x.2.1 c' x.2.2 m _ (HH2.out.gr GX.out) (F2.out.gr GX.out) ((Gr.call G2.out GX.out).ml HM.out)).mono ?_
    cases hhd:hides cov h x.1 with
    | false =>
     rintro e' w3 ⟨rfl,g3⟩
     have GY:=Hid.mk' (Gr.call GX.out g3)
     have N1:=Hid.mk' (NXT.out L (SKIP.out (by simp [woP,hhd])) (.slice va vm vk) w3 ((GY.out.block _ (by omega)).trans IT2.out) (Gr.call G2.out GY.out) (blk_gr GY.out B2.out) (ownsGr O2.out GY.out))
     clear NXT SKIP TAKE g3
     go_wp2_with fail
     exact N1.out
    | true =>
     rintro e' w3 ⟨rfl,g3⟩
     have GY:=Hid.mk' (Gr.call GX.out g3)
     have GW:=Hid.mk' (Gr.call G2.out GY.out)
     have XB:=Hid.mk' (blk_gr g3 (heap_alloc_new W2 (.cells #[.int .i64 x.1.key.1,.int .i64 x.1.key.2,.slice x.2.1 x.1.f.length x.2.2,.int .i64 x.1.fr] 121)))
     clear g3
     have g0:w3.cell? ⟨W2.heap.size,0,none⟩=some (.int .i64 x.1.key.1):=by rw [cell_of_row _ _ _ _ _ _ XB.out];rfl
     have g1:w3.cell? ⟨W2.heap.size,1,none⟩=some (.int .i64 x.1.key.2):=by rw [cell_of_row _ _ _ _ _ _ XB.out];rfl
     have g2:w3.cell? ⟨W2.heap.size,2,none⟩=some (.slice x.2.1 x.1.f.length x.2.2):=by rw [cell_of_row _ _ _ _ _ _ XB.out];rfl
     have g3:w3.cell? ⟨W2.heap.size,3,none⟩=some (.int .i64 x.1.fr):=by rw [cell_of_row _ _ _ _ _ _ XB.out];rfl
     have HT:=Hid.mk' (isTold_any TB HB hoff nb hcap b MB n x.1 x.2.1 x.2.2 X es clock m w3 ((GW.out.cell (p:=⟨TB,0,none⟩) hTB).trans HC0.out) ((GW.out.cell (p:=⟨HB,hoff+b,none⟩) hHB).trans HCB.out) hb (GW.out.lt hTB) (GW.out.lt hHB) (HP.out.gr GW.out) (F2.out.gr GY.out) (GW.out.ml HM.out))
     unfold hv at HT
     go_wp2_with fail
     refine HT.out.mono ?_
     cases hit:isT cov (X.map (·.1)) n x.1 with
     | false =>
      rintro e' w4 ⟨rfl,g4⟩
      have GZ:=Hid.mk' (Gr.call GY.out g4)
      have N1:=Hid.mk' (NXT.out L (SKIP.out (by simp [woP,hit])) (.slice va vm vk) w4 ((GZ.out.block _ (by omega)).trans IT2.out) (Gr.call G2.out GZ.out) (blk_gr GZ.out B2.out) (ownsGr O2.out GZ.out))
      clear NXT SKIP TAKE g4 HT
      go_wp2_with fail
      exact N1.out
     | true =>
      rintro e' w4 ⟨rfl,g4⟩
      have GZ:=Hid.mk' (Gr.call GY.out g4)
      have XC:=Hid.mk' (blk_gr g4 XB.out)
      have KL2:=Hid.mk' (TAKE.out (by simp [woP,hn',hhd,hit]))
      have O4:=Hid.mk' (ownsGr O2.out GZ.out)
      have G4:=Hid.mk' (Gr.call G2.out GZ.out)
      have hs4:w.heap.size+1<w4.heap.size:=Nat.lt_of_lt_of_le (by omega) GZ.out.size
      clear SKIP TAKE g4 HT g0 g1 g2 g3
      have g0:w4.cell? ⟨W2.heap.size,0,none⟩=some (.int .i64 x.1.key.1):=by rw [cell_of_row _ _ _ _ _ _ XC.out];rfl
      have g1:w4.cell? ⟨W2.heap.size,1,none⟩=some (.int .i64 x.1.key.2):=by rw [cell_of_row _ _ _ _ _ _ XC.out];rfl
      have g2:w4.cell? ⟨W2.heap.size,2,none⟩=some (.slice x.2.1 x.1.f.length x.2.2):=by rw [cell_of_row _ _ _ _ _ _ XC.out];rfl
      have g3:w4.cell? ⟨W2.heap.size,3,none⟩=some (.int .i64 x.1.fr):=by rw [cell_of_row _ _ _ _ _ _ XC.out];rfl
      go_wp2_with (at_builtin;refine wpList_append_own _ rfl _ _ 177 rfl (w.heap.size+1) 121 i0 _ 4 48 Tryz.underlying177 hi hz0 hz1 hz2 rfl (by decide) _ _ _ rfl (O4.out.alloc _) ⟨w4.heap.size,0,none⟩ 1 1 [.int .i64 x.1.key.1,.int .i64 x.1.key.2,.slice x.2.1 x.1.f.length x.2.2,.int .i64 x.1.fr] rfl rfl (World.news_of_block (new_atK rfl)) ?k2 ?k3 ?k4 ?k5 ?_)
      case k2=>intro t ht;simp at ht;rcases ht with rfl | rfl | rfl | rfl <;> rfl
      case k3=>have:=HLN.out;unfold maxLen;omega
      case k4=>have:=HLN.out;omega
      case k5=>simp;omega
      intro v5 w5 ho5 hg5 _
      have low:∀ q,Value.ownBlock (.slice va vm vk)=some q→w.heap.size+1≤q:=own_low O4.out
      have G5:Hid (Gr w w5):=Below.grown (G4.out.alloc _) hg5 (Nat.le_trans G4.out.size (by simp)) (fun q hq=>by have:=low q hq;omega)
      have I5:Hid (w5.heap[w.heap.size+1]? = some (.mapIter (some MB) clock (seen.push e.born) clock)):=by
       show _=_
       rw [hg5.block _ (by simp;omega) (fun h5=>HNE.out h5.symm),Below.heap_alloc _ _ _ (by omega),GZ.out.block _ (by omega)]
       exact IT2.out
      have B5:Hid (w5.heap[w.heap.size]? = some (.cells #[.int .i64 h.key.1,.int .i64 h.key.2,.slice a' h.f.length c',.int .i64 h.fr] 121 (0,0))):=by
       show _=_
       rw [hg5.block _ (by simp;omega) (fun h5=>by have:=low _ h5.symm;omega),Below.heap_alloc _ _ _ (by omega),GZ.out.block _ (by omega)]
       exact B2.out
      have O5:w5.ownsRow (w.heap.size+1) 121 4 v5 (L++[x]).length (hcells (L++[x])):=by
       rw [hcells_snoc,List.length_append];exact ho5
      have N1:=Hid.mk' (NXT.out (L++[x]) KL2.out v5 w5 I5.out G5.out B5.out O5)
      obtain ⟨ya,ym,yk,rfl⟩:=owns_slice ho5
      clear ho5 hg5 O4 O2 NXT O5 low
      go_wp2_with fail
      exact N1.out
def pushq (qs:Nat→Nat→List Mm) (a b:Nat) (l:List Mm):Nat→Nat→List Mm:=fun x y=>if x=a∧y=b then qs x y++l else qs x y
def popq (qs:Nat→Nat→List Mm) (a b:Nat):Nat→Nat→List Mm:=fun x y=>if x=a∧y=b then (qs x y).tail else qs x y
theorem nod_side {m1 m2:List (Value × Value)} {k v:Value} (h:((m1++(k,v)::m2).map Prod.fst).Nodup) {x:Value × Value} (hx:x∈m1∨x∈m2):x.1≠k:=by
 simp only [List.map_append,List.map_cons] at h
 rw [List.nodup_append] at h
 obtain ⟨_,h2,h3⟩:=h
 rcases hx with hx | hx
 ·exact h3 _ (List.mem_map.2 ⟨x,hx,rfl⟩) k (by simp)
 ·intro e
  have:=(List.nodup_cons.1 h2).1
  exact this (List.mem_map.2 ⟨x,hx,e⟩)
section
variable {T:Tc} {r:Nat→Rl} {w:World} {Xs:Nat→List Hm} {qs:Nat→Nat→List Mm} {cls:List Cl}
theorem Tm.send (h:Tm T r w Xs qs cls) {a b:Nat} (x:Mm) (hx:MmOk r w x) {m1 m2:List (Value × Value)} {es:Array MapEntry} {clock:Nat} {v v':Value}
  (hm:Mp Tryz.prog 81 w T.LB (m1++(pk ((a:Int),(b:Int)),v)::m2) es clock)
  (hall:∀ k u,(k,u)∈m1++(pk ((a:Int),(b:Int)),v)::m2 → ∃ a b:Nat,k=pk ((a:Int),(b:Int))∧T.adj a b=true∧Qr w 172 4 (fun k=>r k = .qu a b) u (qs a b).length ((qs a b).flatMap mcells))
  (hev:∀ a' b':Nat,T.adj a' b'=true → ∃ u,(pk ((a':Int),(b':Int)),u)∈m1++(pk ((a:Int),(b:Int)),v)::m2)
  (hv:Qr w 172 4 (fun k=>r k = .qu a b) v (qs a b).length ((qs a b).flatMap mcells)) (hab:T.adj a b=true)
  {w2:World} (g:w.grownBy w2 v.ownBlock) (hq:Qr w2 172 4 (fun k=>v'.ownBlock=some k) v' ((qs a b).length+1) ((qs a b).flatMap mcells++mcells x)) (hat:v'.ownBlock=v.ownBlock ∨ ∃ k,w.heap.size≤k∧v'.ownBlock=some k)
  {es':Array MapEntry} {clock':Nat} (hm':Mp Tryz.prog 81 (setBlock w2 T.LB (.map es' clock')) T.LB (m1++(pk ((a:Int),(b:Int)),v')::m2) es' clock') :
  ∃ r',Tm T r' (setBlock w2 T.LB (.map es' clock')) Xs (pushq qs a b [x]) cls∧Fr r r' w (setBlock w2 T.LB (.map es' clock')):=by
 have hlt:=hm.lt
 have hown:∀ k,v.ownBlock=some k→r k = .qu a b∧k<w.heap.size:=fun k hk=>hv.own k hk
 have hown':∀ k,k<w.heap.size→v'.ownBlock=some k→r k = .qu a b:=fun k hk e=>by
  rcases hat with h1 | ⟨q,h1,h2⟩
  ·rw [h1] at e;exact (hown k e).1
  ·rw [h2] at e;injection e with e;omega
 have hs:w.heap.size≤(setBlock w2 T.LB (.map es' clock')).heap.size:=by simp only [setBlock];simpa using g.size
 have hsame:∀ k,k<w.heap.size→(if v'.ownBlock=some k then Rl.qu a b else r k)=r k:=by
  intro k hk
  split
  ·rename_i e;exact (hown' k hk e).symm
  ·rfl
 have hkeep:∀ k,k<w.heap.size→r k ≠ .lm→r k ≠ .qu a b→(setBlock w2 T.LB (.map es' clock')).heap[k]? = w.heap[k]? := by
  intro k hk h1 h2
  rw [setBlock_other (fun e=>h1 (by rw [e];exact h.l.lm))]
  exact g.block k hk (fun e=>h2 (hown k e.symm).1)
 have htop:∀ k,(setBlock w2 T.LB (.map es' clock')).heap.size≤k→(if v'.ownBlock=some k then Rl.qu a b else r k) = .no:=by
  intro k hk
  have hk2:w2.heap.size≤k:=by simp only [setBlock] at hk;simpa using hk
  rw [if_neg (fun e=>by have:=(hq.own k e).2;omega)]
  exact h.b.top k (Nat.le_trans g.size hk2)
 have nl:∀ {k:Nat},r k = .fx→r k ≠ .lm∧r k ≠ .qu a b:=fun e=>⟨by rw [e];exact fun e=>(by cases e),by rw [e];exact fun e=>(by cases e)⟩
 refine ⟨fun k=>if v'.ownBlock=some k then .qu a b else r k,⟨h.b.keep hs (fun k hk hr=>?_) hsame htop,h.h.keep hs (fun k hk hr=>?_) hsame,⟨?_,⟨_,es',clock',hm',fun k u hu=>?_,fun a' b' hab'=>?_⟩,fun a' b' y hy=>?_,fun a' b' hf=>?_⟩,h.k.keep hs (fun k hk hr=>?_) hsame⟩,⟨g.os,g.tape,g.output,hs,fun k hk hr=>?_,hsame⟩⟩
 ·rcases hr with hr | hr
  ·exact hkeep k hk (by rw [hr];exact fun e=>by cases e) (by rw [hr];exact fun e=>by cases e)
  ·exact hkeep k hk (nl hr).1 (nl hr).2
 ·rcases hr with hr | ⟨c,hr⟩
  ·exact hkeep k hk (nl hr).1 (nl hr).2
  ·exact hkeep k hk (by rw [hr];exact fun e=>by cases e) (by rw [hr];exact fun e=>by cases e)
 ·exact (hsame _ hlt).trans h.l.lm
 ·have hside:∀ y:Value × Value,y∈m1∨y∈m2 → ∃ a' b':Nat,y.1=pk ((a':Int),(b':Int))∧T.adj a' b'=true∧Qr (setBlock w2 T.LB (.map es' clock')) 172 4 (fun k=>(if v'.ownBlock=some k then Rl.qu a b else r k) = .qu a' b') y.2 (pushq qs a b [x] a' b').length ((pushq qs a b [x] a' b').flatMap mcells):=by
   intro y hy
   have hmem:(y.1,y.2)∈m1++(pk ((a:Int),(b:Int)),v)::m2:=by
    rcases hy with hy | hy
    ·exact List.mem_append.2 (Or.inl hy)
    ·exact List.mem_append.2 (Or.inr (List.mem_cons.2 (Or.inr hy)))
   obtain ⟨a',b',e,ha,hQ⟩:=hall _ _ hmem
   have hne:=nod_side hm.nod hy
   have hnn:¬ (a'=a∧b'=b):=fun ee=>hne (by rw [e,ee.1,ee.2])
   refine ⟨a',b',e,ha,?_⟩
   rw [show pushq qs a b [x] a' b'=qs a' b' from if_neg hnn]
   refine hQ.kept fun gg hg hR=>⟨hkeep gg hg (by rw [hR];exact fun e=>by cases e) (by rw [hR];intro e;injection e with e1 e2;exact hnn ⟨e1,e2⟩),(hsame gg hg).trans hR⟩
  rcases List.mem_append.1 hu with hu | hu
  ·exact hside (k,u) (Or.inl hu)
  ·rcases List.mem_cons.1 hu with hu | hu
   ·injection hu with e1 e2
    subst e2
    refine ⟨a,b,e1,hab,?_⟩
    rw [show pushq qs a b [x] a b=qs a b++[x] from if_pos ⟨rfl,rfl⟩,List.length_append,List.flatMap_append]
    have hx1:[x].flatMap mcells=mcells x:=by simp
    rw [hx1]
    refine hq.kept fun gg hg hR=>⟨setBlock_other (fun e=>?_),if_pos hR⟩
    subst e
    have:=hown' _ hlt hR
    rw [h.l.lm] at this;cases this
   ·exact hside (k,u) (Or.inr hu)
 ·obtain ⟨u,hu⟩:=hev a' b' hab'
  rcases List.mem_append.1 hu with hu | hu
  ·exact ⟨u,List.mem_append.2 (Or.inl hu)⟩
  ·rcases List.mem_cons.1 hu with hu | hu
   ·injection hu with e1 e2
    exact ⟨v',List.mem_append.2 (Or.inr (List.mem_cons.2 (Or.inl (by rw [e1]))))⟩
   ·exact ⟨u,List.mem_append.2 (Or.inr (List.mem_cons.2 (Or.inr hu)))⟩
 ·have hk2:∀ y:Mm,MmOk r w y→MmOk (fun k=>if v'.ownBlock=some k then .qu a b else r k) (setBlock w2 T.LB (.map es' clock')) y:=fun y hy=>hy.keep hs (fun k hk hr=>hkeep k hk (nl hr).1 (nl hr).2) hsame
  unfold pushq at hy
  split at hy
  ·rcases List.mem_append.1 hy with hy | hy
   ·exact hk2 y (h.l.ms a' b' y hy)
   ·rw [List.mem_singleton.1 hy];exact hk2 x hx
  ·exact hk2 y (h.l.ms a' b' y hy)
 ·have hnn:¬ (a'=a∧b'=b):=fun ee=>by rw [ee.1,ee.2,hab] at hf;cases hf
  rw [show pushq qs a b [x] a' b'=qs a' b' from if_neg hnn]
  exact h.l.nq a' b' hf
 ·rcases hr with hr | hr | ⟨c,hr⟩ | ⟨c,hr⟩
  ·exact hkeep k hk (nl hr).1 (nl hr).2
  all_goals exact hkeep k hk (by rw [hr];exact fun e=>by cases e) (by rw [hr];exact fun e=>by cases e)
 ·rcases hr with hr | hr
  ·exact hkeep k hk (by rw [hr];exact fun e=>by cases e) (by rw [hr];exact fun e=>by cases e)
  ·exact hkeep k hk (nl hr).1 (nl hr).2
theorem Tm.pop (h:Tm T r w Xs qs cls) {a b:Nat} {x:Mm} {rest:List Mm} (hqs:qs a b=x::rest) {m1 m2:List (Value × Value)} {es:Array MapEntry} {clock:Nat} {v v':Value}
  (hm:Mp Tryz.prog 81 w T.LB (m1++(pk ((a:Int),(b:Int)),v)::m2) es clock)
  (hall:∀ k u,(k,u)∈m1++(pk ((a:Int),(b:Int)),v)::m2 → ∃ a b:Nat,k=pk ((a:Int),(b:Int))∧T.adj a b=true∧Qr w 172 4 (fun k=>r k = .qu a b) u (qs a b).length ((qs a b).flatMap mcells))
  (hev:∀ a' b':Nat,T.adj a' b'=true → ∃ u,(pk ((a':Int),(b':Int)),u)∈m1++(pk ((a:Int),(b:Int)),v)::m2) (hab:T.adj a b=true)
  {w2:World} {g:Nat} (hg:r g = .qu a b) (ho:∀ k,k≠g→w2.heap[k]? = w.heap[k]?) (hsz:w2.heap.size=w.heap.size) (h1:w2.os=w.os) (h2:w2.tape=w.tape) (h3:w2.output=w.output)
  (hq:Qr w2 172 4 (fun k=>r k = .qu a b) v' rest.length (rest.flatMap mcells))
  {es':Array MapEntry} {clock':Nat} (hm':Mp Tryz.prog 81 (setBlock w2 T.LB (.map es' clock')) T.LB (m1++(pk ((a:Int),(b:Int)),v')::m2) es' clock') :
  Tm T r (setBlock w2 T.LB (.map es' clock')) Xs (popq qs a b) cls∧Fr r r w (setBlock w2 T.LB (.map es' clock')):=by
 have hpop:popq qs a b a b=rest:=by unfold popq;rw [if_pos ⟨rfl,rfl⟩,hqs];rfl
 have hs:w.heap.size≤(setBlock w2 T.LB (.map es' clock')).heap.size:=by simp only [setBlock];simpa using Nat.le_of_eq hsz.symm
 have hkeep:∀ k,r k ≠ .lm→r k ≠ .qu a b→(setBlock w2 T.LB (.map es' clock')).heap[k]? = w.heap[k]? := by
  intro k h1 h2
  rw [setBlock_other (fun e=>h1 (by rw [e];exact h.l.lm))]
  exact ho k (fun e=>h2 (by rw [e];exact hg))
 have htop:∀ k,(setBlock w2 T.LB (.map es' clock')).heap.size≤k→r k = .no:=fun k hk=>h.b.top k (Nat.le_trans hs hk)
 have nl:∀ {k:Nat},r k = .fx→r k ≠ .lm∧r k ≠ .qu a b:=fun e=>⟨by rw [e];exact fun e=>(by cases e),by rw [e];exact fun e=>(by cases e)⟩
 have hsame:∀ k,k<w.heap.size→r k=r k:=fun _ _=>rfl
 refine ⟨⟨h.b.keep hs (fun k hk hr=>?_) hsame htop,h.h.keep hs (fun k hk hr=>?_) hsame,⟨h.l.lm,⟨_,es',clock',hm',fun k u hu=>?_,fun a' b' hab'=>?_⟩,fun a' b' y hy=>?_,fun a' b' hf=>?_⟩,h.k.keep hs (fun k hk hr=>?_) hsame⟩,⟨h1,h2,h3,hs,fun k hk hr=>?_,hsame⟩⟩
 ·rcases hr with hr | hr
  ·exact hkeep k (by rw [hr];exact fun e=>by cases e) (by rw [hr];exact fun e=>by cases e)
  ·exact hkeep k (nl hr).1 (nl hr).2
 ·rcases hr with hr | ⟨c,hr⟩
  ·exact hkeep k (nl hr).1 (nl hr).2
  ·exact hkeep k (by rw [hr];exact fun e=>by cases e) (by rw [hr];exact fun e=>by cases e)
 ·have hside:∀ y:Value × Value,y∈m1∨y∈m2 → ∃ a' b':Nat,y.1=pk ((a':Int),(b':Int))∧T.adj a' b'=true∧Qr (setBlock w2 T.LB (.map es' clock')) 172 4 (fun k=>r k = .qu a' b') y.2 (popq qs a b a' b').length ((popq qs a b a' b').flatMap mcells):=by
   intro y hy
   have hmem:(y.1,y.2)∈m1++(pk ((a:Int),(b:Int)),v)::m2:=by
    rcases hy with hy | hy
    ·exact List.mem_append.2 (Or.inl hy)
    ·exact List.mem_append.2 (Or.inr (List.mem_cons.2 (Or.inr hy)))
   obtain ⟨a',b',e,ha,hQ⟩:=hall _ _ hmem
   have hne:=nod_side hm.nod hy
   have hnn:¬ (a'=a∧b'=b):=fun ee=>hne (by rw [e,ee.1,ee.2])
   refine ⟨a',b',e,ha,?_⟩
   rw [show popq qs a b a' b'=qs a' b' from if_neg hnn]
   refine hQ.kept fun gg _ hR=>⟨hkeep gg (by rw [hR];exact fun e=>by cases e) (by rw [hR];intro e;injection e with e1 e2;exact hnn ⟨e1,e2⟩),hR⟩
  rcases List.mem_append.1 hu with hu | hu
  ·exact hside (k,u) (Or.inl hu)
  ·rcases List.mem_cons.1 hu with hu | hu
   ·injection hu with e1 e2
    subst e2
    refine ⟨a,b,e1,hab,?_⟩
    rw [hpop]
    refine hq.kept fun gg _ hR=>⟨setBlock_other (fun e=>?_),hR⟩
    subst e
    rw [h.l.lm] at hR;cases hR
   ·exact hside (k,u) (Or.inr hu)
 ·obtain ⟨u,hu⟩:=hev a' b' hab'
  rcases List.mem_append.1 hu with hu | hu
  ·exact ⟨u,List.mem_append.2 (Or.inl hu)⟩
  ·rcases List.mem_cons.1 hu with hu | hu
   ·injection hu with e1 e2
    exact ⟨v',List.mem_append.2 (Or.inr (List.mem_cons.2 (Or.inl (by rw [e1]))))⟩
   ·exact ⟨u,List.mem_append.2 (Or.inr (List.mem_cons.2 (Or.inr hu)))⟩
 ·have hk2:∀ y:Mm,MmOk r w y→MmOk r (setBlock w2 T.LB (.map es' clock')) y:=fun y hy=>hy.keep hs (fun k hk hr=>hkeep k (nl hr).1 (nl hr).2) hsame
  unfold popq at hy
  split at hy
  ·exact hk2 y (h.l.ms a' b' y (List.mem_of_mem_tail hy))
  ·exact hk2 y (h.l.ms a' b' y hy)
 ·have hnn:¬ (a'=a∧b'=b):=fun ee=>by rw [ee.1,ee.2,hab] at hf;cases hf
  rw [show popq qs a b a' b'=qs a' b' from if_neg hnn]
  exact h.l.nq a' b' hf
 ·rcases hr with hr | hr | ⟨c,hr⟩ | ⟨c,hr⟩
  ·exact hkeep k (nl hr).1 (nl hr).2
  all_goals exact hkeep k (by rw [hr];exact fun e=>by cases e) (by rw [hr];exact fun e=>by cases e)
 ·rcases hr with hr | hr
  ·exact hkeep k (by rw [hr];exact fun e=>by cases e) (by rw [hr];exact fun e=>by cases e)
  ·exact hkeep k (nl hr).1 (nl hr).2
theorem Tm.turn (h:Tm T r w Xs qs cls) {b:Nat} (hb:b<T.nb) (X':List Hm) {es':Array MapEntry} {clock':Nat} (hm':Mp Tryz.prog 112 (setBlock w (T.MB b) (.map es' clock')) (T.MB b) (X'.map mv) es' clock')
  (hfi:∀ x∈X',FiR r w x.2.1 x.1.f∧I64 x.1.key.1∧I64 x.1.key.2) :
  Tm T r (setBlock w (T.MB b) (.map es' clock')) (fun c=>if c=b then X' else Xs c) qs cls∧Fr r r w (setBlock w (T.MB b) (.map es' clock')):=by
 have hs:w.heap.size≤(setBlock w (T.MB b) (.map es' clock')).heap.size:=by simp [setBlock]
 have hrb:=(h.h.at' b hb).1
 have hkeep:∀ k,r k ≠ .hm b→(setBlock w (T.MB b) (.map es' clock')).heap[k]? = w.heap[k]? := fun k h1=>setBlock_other (fun e=>h1 (by rw [e];exact hrb))
 have htop:∀ k,(setBlock w (T.MB b) (.map es' clock')).heap.size≤k→r k = .no:=fun k hk=>h.b.top k (Nat.le_trans hs hk)
 have hsame:∀ k,k<w.heap.size→r k=r k:=fun _ _=>rfl
 have fi2:∀ {ad:Option Addr} {f:List Wnt},FiR r w ad f→FiR r (setBlock w (T.MB b) (.map es' clock')) ad f:=fun hf=>hf.keep hs (fun k _ hr=>hkeep k (by rw [hr];exact fun e=>by cases e)) hsame
 refine ⟨⟨h.b.keep hs (fun k _ hr=>hkeep k ?_) hsame htop,⟨fun c hc=>?_,fun c hc x hx=>?_⟩,h.l.keep hs (fun k _ hr=>hkeep k ?_) hsame,h.k.keep hs (fun k _ hr=>hkeep k ?_) hsame⟩,⟨rfl,rfl,rfl,hs,fun k _ hr=>hkeep k ?_,hsame⟩⟩
 ·rcases hr with hr | hr <;> (rw [hr];exact fun e=>by cases e)
 ·by_cases hcb:c=b
  ·subst hcb
   simp only [if_true]
   exact ⟨hrb,es',clock',hm'⟩
  ·simp only [if_neg hcb]
   obtain ⟨h1,es,clock,h2⟩:=h.h.at' c hc
   exact ⟨h1,es,clock,h2.kept (hkeep _ (by rw [h1];intro e;injection e with e;exact hcb e))⟩
 ·by_cases hcb:c=b
  ·subst hcb
   simp only [if_true] at hx
   exact ⟨fi2 (hfi x hx).1,(hfi x hx).2⟩
  ·simp only [if_neg hcb] at hx
   exact ⟨fi2 (h.h.fi c hc x hx).1,(h.h.fi c hc x hx).2⟩
 ·rcases hr with hr | hr | ⟨a,c,hr⟩ <;> (rw [hr];exact fun e=>by cases e)
 ·rcases hr with hr | hr | ⟨c,hr⟩ | ⟨c,hr⟩ <;> (rw [hr];exact fun e=>by cases e)
 ·rcases hr with hr | hr <;> (rw [hr];exact fun e=>by cases e)
end
theorem Tm.set {T:Tc} {r:Nat→Rl} {w:World} {Xs:Nat→List Hm} {qs:Nat→Nat→List Mm} {cls:List Cl} (h:Tm T r w Xs qs cls) {B j:Nat} (hB:r B = .no) (h0:B≠0) (u:Value):Tm T r (w.setCell ⟨B,j,none⟩ u) Xs qs cls:=by
 refine Tm.apart (r1:=fun k=>if k=B then .lm else .no) (r1':=fun k=>if k=B then .lm else .no) h ⟨rfl,rfl,rfl,by rw [size_set];exact Nat.le_refl _,fun k _ hr=>Below.heap_setCell w _ u k ?_,fun _ _=>rfl⟩ (fun k=>?_) (if_neg (fun e=>h0 e.symm))
 ·intro e
  have e:k=B:=e
  simp only [e,if_true] at hr
  rcases hr with hr | hr <;> cases hr
 ·by_cases hk:k=B
  ·exact Or.inl (by rw [hk];exact hB)
  ·exact Or.inr (if_neg hk)
theorem Fr.set {r r':Nat→Rl} {w w':World} (h:Fr r r' w w') {B j:Nat} (hB:w.heap.size≤B) (u:Value):Fr r r' w (w'.setCell ⟨B,j,none⟩ u) :=
 ⟨h.os,h.tape,h.output,by rw [size_set];exact h.size,fun k hk hr=>(Below.heap_setCell w' _ u k (by show k≠B;omega)).trans (h.keep k hk hr),h.same⟩
structure Vw (T:Tc) (Xs:Nat→List Hm) (qs:Nat→Nat→List Mm) (s:TS (List Wnt) (List Atr)):Prop where
 held:∀ b,b<T.nb → ∀ h,h∈s.held b ↔ ∃ x∈Xs b,x.1=h
 q:∀ a b,s.q a b=(qs a b).map Mm.ms
theorem isT_cong {l l':List Hw} (h:∀ g,g∈l↔g∈l') (n:Int) (x:Hw):isT cov l n x=isT cov l' n x:=by
 rw [Bool.eq_iff_iff,isT_iff,isT_iff]
 exact ⟨fun k g hg=>k g ((h g).2 hg),fun k g hg=>k g ((h g).1 hg)⟩
theorem woT_of {X L:List Hm} {l:List Hw} {n:Int} {h:Hw} (hs:Srt l) (hl:∀ g,g∈l ↔ ∃ x∈X,x.1=g) (hL:L.Pairwise fun x y=>klt x.1.key y.1.key=true) (hm:∀ x,x∈L↔x∈X∧woP X n h x=true):L.map (·.1)=woT cov l n h:=by
 have hc:∀ g,g∈X.map (·.1)↔g∈l:=fun g=>by rw [hl g,List.mem_map]
 refine Srt.ext (List.pairwise_map.2 hL) (hs.filter _) (fun g=>?_)
 rw [List.mem_map]
 constructor
 ·rintro ⟨x,hx,rfl⟩
  obtain ⟨h1,h2⟩:=(hm x).1 hx
  refine List.mem_filter.2 ⟨(hl _).2 ⟨x,h1,rfl⟩,?_⟩
  unfold woP at h2
  rw [isT_cong hc] at h2
  exact h2
 ·intro hg
  obtain ⟨h1,h2⟩:=List.mem_filter.1 hg
  obtain ⟨x,hx,rfl⟩:=(hl g).1 h1
  refine ⟨x,(hm x).2 ⟨hx,?_⟩,rfl⟩
  unfold woP
  rw [isT_cong hc]
  exact h2
end Go.Proofs.YtecnfgikbmcgoaaGreat
namespace Go.Proofs.YtecnfgikbmcgoaaGreat
open Go.Maps (Keyed)
open Go.ChangeMaps (setBlock)
theorem region_D {P:Program} {ops:Array Oper} {Q:Exit→Act→World→Prop} {id:Nat} {a0:Act} {w0:World} (hm:P.follows .mixedOrders=true) (last:Nat) (hs:shapeB ops last=true) (dst:Nat→Nat) (hinj:∀ i,i<last → ∀ j,j<last→dst i=dst j→i=j)
  (R:Nat→Value→World→Prop) (E:Act→Prop) (W:World→Prop) (Good:Nat→World→World→Prop)
  (hE:∀ a i x,i<last→E a→E (a.put (some (dst i)) x)) (hsize:∀ a,E a → ∀ i,i<last→dst i<a.tmps.size)
  (hW:∀ i w w',W w→Good i w w'→W w') (hR:∀ i j x w w',i≠j→R j x w→Good i w w'→R j x w')
  (hfront:∀ (i:Nat) (o:Oper) (a:Act) (w:World),ops[i]? = some o→i<last→E a→W w→(∀ e∈o.after,Region.binds .any e=true→R e.on (a.eval (.tmp (dst e.on))) w) → ∀ K:Act→World→Prop,(∀ x w',Good i w w'→R i x w'→K (a.put (some (dst i)) x) w')→o.wp P a w K Q)
  (hlast:∀ (o:Oper) (a:Act) (w:World),ops[last]? = some o→E a→W w→(∀ j,j<last→R j (a.eval (.tmp (dst j))) w) → ∀ K:Act→World→Prop,(∀ a' w',Q .normal a' w'→K a' w')→o.wp P a w K Q)
  (h0:E a0) (hw0:W w0.drew):(Code.region id ops true).wp P Q a0 w0 :=
 region_R hm last (shape_size hs) dst (fun i j hi hj h=>hinj i hi j hj h) (fun _ _ ho=>(shape_at hs ho).1) (fun _ _ ho=>(shape_at hs ho).2) (shape_all hs) R E W Good hE hsize hW hR hfront hlast h0 hw0
theorem setBlock_self {w:World} {B:Nat} {o:Obj} (h:w.heap[B]? = some o):setBlock w B o=w:=by
 have hl:=(Array.getElem?_eq_some_iff.1 h).1
 have:w.heap.setIfInBounds B o=w.heap:=by
  apply Array.ext_getElem?
  intro i
  by_cases hi:B=i
  ·subst hi;rw [Array.getElem?_setIfInBounds_self,if_pos hl,h]
  ·rw [Array.getElem?_setIfInBounds_ne hi]
 unfold setBlock
 rw [this]
section
variable {P:Program} {kt et mt:TypeId} {w:World} {B:Nat} {m:List (Value × Value)} {es:Array MapEntry} {clock:Nat}
theorem Mp.spl (h:Mp P kt w B m es clock) {k v:Value} (hv:(k,v)∈m):∃ (l1:List MapEntry) (e:MapEntry) (l2:List MapEntry),es.toList=l1++e::l2∧e.key=k∧e.val=v:=by
 rw [← h.ent] at hv
 obtain ⟨e,he,hee⟩:=List.mem_map.1 hv
 injection hee with h1 h2
 obtain ⟨l1,l2,hl⟩:=List.append_of_mem he
 exact ⟨l1,e,l2,hl,h1,h2⟩
theorem Mp.ent_of (h:Mp P kt w B m es clock) {l1 l2:List MapEntry} {e:MapEntry} (hl:es.toList=l1++e::l2):m=l1.map (fun e=>(e.key,e.val))++(e.key,e.val)::l2.map (fun e=>(e.key,e.val)):=by
 rw [← h.ent,hl];simp
theorem Mp.entry (K:Keyed P kt) (ht:P.underlying mt=some (.map kt et)) (h:Mp P kt w B m es clock) {l1 l2:List MapEntry} {e:MapEntry} (hl:es.toList=l1++e::l2) {l:Lit} (hk:keyOf P kt e.key=some l) :
  (Instr.mapEntry mt (.map (some B)) e.key).run P w = .ok (.tuple #[e.val,goInt e.born]) w:=by
 have hu:(underlying mt).run P w = .ok (.map kt et) w:=by simp [underlying,ht]
 have hg:(getObj B).run P w = .ok (.map es clock) w:=by simp [getObj,Sem.run,h.blk]
 have hc:=K.check w false hk
 have hem:e∈es.toList:=by rw [hl];simp
 rcases K.find w hk es.toList h.key with ⟨_,hno⟩ | ⟨j,e',hf,hj,hek⟩
 ·exact absurd rfl (hno e hem)
 ·have he':e'=e:=by
   have hd:=h.nod
   rw [← h.ent,List.map_map] at hd
   exact nod_inj hd (List.mem_of_getElem? hj) hem hek
  subst he'
  have hj':es[j]? = some e':=by rw [← Array.getElem?_toList];exact hj
  have hmod:(es.modify j fun x=>{ x with key:=e'.key })=es:=by
   apply Array.ext_getElem?
   intro i
   rw [Array.getElem?_modify]
   split
   ·rename_i hji;subst hji;rw [hj'];rfl
   ·rfl
  unfold Instr.mapEntry
  simp only [Sem.run_bind,hu,Result.andThen_ok,hg,hc,hf,hj',Option.map_some,Option.getD_some,K.stays w hk,hmod,run_setMap h.blk,setBlock_self h.blk,Sem.run_pure]
theorem Mp.entry_put (h:Mp P kt w B m es clock) {l1 l2:List MapEntry} {e:MapEntry} (hl:es.toList=l1++e::l2) (v:Value) :
  ∃ es',(Instr.entryStore mt (.map (some B)) (goInt e.born) v).run P w = .ok () (setBlock w B (.map es' clock))∧Mp P kt (setBlock w B (.map es' clock)) B (l1.map (fun e=>(e.key,e.val))++(e.key,v)::l2.map (fun e=>(e.key,e.val))) es' clock:=by
 have hg:(getObj B).run P w = .ok (.map es clock) w:=by simp [getObj,Sem.run,h.blk]
 have hm:=h.ent_of hl
 have hbn:=h.bnd
 rw [hl] at hbn
 have hne:∀ x∈l1,¬ x.born=e.born:=by
  intro x hx ee
  simp only [List.map_append,List.map_cons] at hbn
  exact (List.nodup_append.1 hbn).2.2 _ (List.mem_map.2 ⟨x,hx,rfl⟩) _ (by simp) ee
 have hfi:es.findIdx? (fun x=>(x.born:Int)==(e.born:Int))=some l1.length:=by
  have:es=(l1++e::l2).toArray:=by rw [← hl]
  rw [this,List.findIdx?_toArray,List.findIdx?_append]
  have h1:l1.findIdx? (fun x=>(x.born:Int)==(e.born:Int))=none:=by
   rw [List.findIdx?_eq_none_iff]
   intro x hx
   have:=hne x hx
   simp;omega
  rw [h1,List.findIdx?_cons]
  simp
 have hl':(es.modify l1.length fun x=>{ x with val:=v }).toList=l1++{ e with val:=v }::l2:=by
  rw [Array.toList_modify,hl,modify_at]
 refine ⟨es.modify l1.length fun x=>{ x with val:=v },?_,?_⟩
 ·unfold Instr.entryStore
  simp only [Sem.run_bind,hg,Result.andThen_ok,goInt,asInt,asIntOf,Sem.run_pure,hfi,run_setMap h.blk]
 ·refine ⟨setBlock_get h.blk,by rw [hl'];simp,fun x hx=>?_,?_,fun x hx=>?_,?_⟩
  ·rw [hl'] at hx
   rcases List.mem_append.1 hx with hx | hx
   ·exact h.key x (by rw [hl];simp [hx])
   ·rcases List.mem_cons.1 hx with rfl | hx
    ·exact h.key e (by rw [hl];simp)
    ·exact h.key x (by rw [hl];simp [hx])
  ·have:=h.nod
   rw [hm] at this
   simpa using this
  ·rw [hl'] at hx
   rcases List.mem_append.1 hx with hx | hx
   ·exact h.brn x (by rw [hl];simp [hx])
   ·rcases List.mem_cons.1 hx with rfl | hx
    ·exact h.brn e (by rw [hl];simp)
    ·exact h.brn x (by rw [hl];simp [hx])
  ·rw [hl']
   simpa using hbn
end
end Go.Proofs.YtecnfgikbmcgoaaGreat
