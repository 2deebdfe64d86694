import Derived.Test.YtecnfgikbmcgoaaGreatG12
import Derived.Deep.RegionWith
namespace Go.Proofs.YtecnfgikbmcgoaaGreat
open Go.RowKit
open Go.Maps (Keyed)
open Go.ChangeMaps (setBlock)
def outD (l:List Hw) (h:Hw) (n:Nat):List (Ms (List Wnt) (List Atr)):=if (n:Int)=h.fr then [] else subs (woT cov l n h)++(if isT cov l n h then [.uns h.key] else [])
theorem sub_take {L:List Hm} {j:Nat} (h:j<L.length):((L.take (j+1)).map fun x=>(Ms.sub x.1.key x.1.f:Ms (List Wnt) (List Atr)))=((L.take j).map fun x=>.sub x.1.key x.1.f)++[.sub (hat L j).1.key (hat L j).1.f]:=by
 rw [hat_take h,List.map_append];rfl
theorem nod_key {X:List Hm} (h:((X.map mv).map Prod.fst).Nodup) {X1 X2:List Hm} {x:Hm} (e:X=X1++x::X2) (y:Hm):y∈X1++X2↔y∈X∧y.1.key≠x.1.key:=by
 subst e
 simp only [List.map_append,List.map_cons] at h
 rw [List.nodup_append] at h
 obtain ⟨h1,h2,h3⟩:=h
 have h4:=(List.nodup_cons.1 h2).1
 constructor
 ·intro hy
  rcases List.mem_append.1 hy with hy | hy
  ·refine ⟨by simp [hy],fun e=>?_⟩
   exact h3 (mv y).1 (List.mem_map.2 ⟨mv y,List.mem_map.2 ⟨y,hy,rfl⟩,rfl⟩) (mv x).1 (by simp) (by show pk _=pk _;rw [e])
  ·refine ⟨by simp [hy],fun e=>?_⟩
   exact h4 (List.mem_map.2 ⟨mv y,List.mem_map.2 ⟨y,hy,rfl⟩,by show pk _=pk _;rw [e]⟩)
 ·rintro ⟨hy,hne⟩
  rcases List.mem_append.1 hy with hy | hy
  ·simp [hy]
  ·rcases List.mem_cons.1 hy with rfl | hy
   ·exact absurd rfl hne
   ·simp [hy]
set_option maxRecDepth 100000 in
set_option maxHeartbeats 4000000 in
theorem drop_any (T:Tc) (r:Nat→Rl) (w:World) (Xs:Nat→List Hm) (qs:Nat→Nat→List Mm) (cls:List Cl) (b:Nat) (h:Hw) (a':Option Addr) (c':Nat) (l:List Hw)
  (hT:Tm T r w Xs qs cls) (hb:b<T.nb) (hh:(h,a',c')∈Xs b) (hs:Srt l) (hl:∀ g,g∈l ↔ ∃ x∈Xs b,x.1=g∧g.key≠h.key) (hX:(Xs b).length≤1048576) (hq:∀ n,(qs b n).length<549755813888) :
  Calls Tryz.prog 42 #[.pointer (some ⟨T.TB,0,none⟩),.int .i64 b,.agg #[.int .i64 h.key.1,.int .i64 h.key.2]] w fun e w'=>e = .returned (.tuple #[]) ∧ ∃ X' r' qs',(∀ y,y∈X'↔y∈Xs b∧y.1.key≠h.key)∧X'.length<(Xs b).length∧Tm T r' w' (fun c=>if c=b then X' else Xs c) qs' cls∧Fr r r' w w' ∧ ∀ x y,(qs' x y).map Mm.ms=outB (fun x y=>(qs x y).map Mm.ms) b (outD l h) (nbs T.adj T.nb b T.nb) x y:=by
 have ga:Gr w (w.alloc (.cells #[.int .i64 h.key.1,.int .i64 h.key.2] 112)):=(Gr.refl w).alloc _
 have HB0:=heap_alloc_new w (.cells #[.int .i64 h.key.1,.int .i64 h.key.2] 112)
 have HTM:=Hid.mk' hT
 have HNB:=hT.b.nb8
 obtain ⟨hF,hk⟩:=hT.h.fi b hb _ hh
 have HK:=Hid.mk' hk
 have HF:=Hid.mk' hF
 obtain ⟨es,clock,hmp⟩:=(hT.h.at' b hb).2
 obtain ⟨lk,hlk⟩:=keyK h.key hk.1 hk.2
 have hmm:(pk h.key,.agg (hv h a' c'))∈(Xs b).map mv:=List.mem_map.2 ⟨_,hh,rfl⟩
 have hlu:=Mp.look_yes Tryz.keyedK Tryz.underlying123 (hmp.kept (w':=(w.alloc (.cells #[.int .i64 h.key.1,.int .i64 h.key.2] 112)).drew) (ga.block _ hmp.lt)) hlk hmm false
 have hlu2:=Mp.look_yes Tryz.keyedK Tryz.underlying123 (hmp.kept (w':=((w.alloc (.cells #[.int .i64 h.key.1,.int .i64 h.key.2] 112)).alloc (.cells #[.int .i64 0,.int .i64 0,.slice none 0 0,.int .i64 0] 121)).drew) ((ga.alloc _).block _ hmp.lt)) hlk hmm false
 have hTB:=(hT.gr ga).tlt
 have hHB:=(hT.gr ga).hlt
 have c0:(w.alloc (.cells #[.int .i64 h.key.1,.int .i64 h.key.2] 112)).cell? ⟨T.TB,0,none⟩=some (.slice (some ⟨T.HB,0,none⟩) T.nb T.hcap):=(hT.gr ga).b.c0
 have cb:(w.alloc (.cells #[.int .i64 h.key.1,.int .i64 h.key.2] 112)).cell? ⟨T.HB,b,none⟩=some (.map (some (T.MB b))):=(hT.gr ga).b.hb b hb
 have k0:(w.alloc (.cells #[.int .i64 h.key.1,.int .i64 h.key.2] 112)).cell? ⟨w.heap.size,0,none⟩=some (.int .i64 h.key.1):=by rw [cell_of_row _ _ _ _ _ _ HB0];rfl
 have k1:(w.alloc (.cells #[.int .i64 h.key.1,.int .i64 h.key.2] 112)).cell? ⟨w.heap.size,1,none⟩=some (.int .i64 h.key.2):=by rw [cell_of_row _ _ _ _ _ _ HB0];rfl
 have hsz:(w.alloc (.cells #[.int .i64 h.key.1,.int .i64 h.key.2] 112)).heap.size=w.heap.size+1:=by simp
 have HMP:=Hid.mk' hmp
 have HMM:=Hid.mk' hmm
 have HH:=Hid.mk' hh
 have HS:=Hid.mk' hs
 have HL:=Hid.mk' hl
 have HQ:=Hid.mk' hq
 have GA:=Hid.mk' ga
 have HHB:=Hid.mk' HB0
 unfold pk hv at hlu hlu2
 have NMEM:Hid (∀ n,n∈nbs T.adj T.nb b T.nb→n<T.nb∧T.adj b n=true):=fun n hn=>(nbs_mem.1 hn).2
 have NND:=Hid.mk' (nbs_nd T.adj T.nb b T.nb)
 have NLE:=nbs_le T.adj T.nb b T.nb
 have NBS:Hid (∀ (W3:World) (Ys:Nat→List Hm),Tm T r W3 Ys qs cls→Calls Tryz.prog 43 #[.pointer (some ⟨T.TB,0,none⟩),.int .i64 b] W3 fun e w'=>∃ v,e = .returned v∧w'.ownsRow W3.heap.size 3 1 v (nbs T.adj T.nb b T.nb).length (ints (nbs T.adj T.nb b T.nb))∧Gr W3 w'):=fun W3 Ys t=>ho_neighbours (T:=T) (r:=r) (w0:=W3) (Xs:=Ys) (cls:=cls) (base:=fun x y=>(qs x y).map Mm.ms) ⟨r,qs,t,Fr.refl _ _,fun _ _=>rfl⟩ hb
 generalize nbs T.adj T.nb b T.nb=NB at *
 clear hT hh hs hl hq ga hmp hmm hF hk HB0
 go_enter Tryz.func42,Tryz.ntmps42
 go_wp2_with fail
 generalize (w.alloc (.cells #[.int .i64 h.key.1,.int .i64 h.key.2] 112))=W1 at *
 have hws:w.heap.size<W1.heap.size:=by omega
 have gz:Gr W1 (W1.alloc (.cells #[.int .i64 0,.int .i64 0,.slice none 0 0,.int .i64 0] 121)):=(Gr.refl W1).alloc _
 have c0':=(gz.cell (p:=⟨T.TB,0,none⟩) hTB).trans c0
 have cb':=(gz.cell (p:=⟨T.HB,b,none⟩) hHB).trans cb
 have k0':=(gz.cell (p:=⟨w.heap.size,0,none⟩) hws).trans k0
 have k1':=(gz.cell (p:=⟨w.heap.size,1,none⟩) hws).trans k1
 clear gz
 go_region
 all_goals
  clear hlu hlu2 c0' cb' k0' k1'
  have G2:Gr w (W1.alloc (.cells #[.int .i64 h.key.1,.int .i64 h.key.2,.slice a' h.f.length c',.int .i64 h.fr] 121)).drew:=(GA.out.alloc _).drew
  have HKB:=blk_gr (((Gr.refl W1).alloc (.cells #[.int .i64 h.key.1,.int .i64 h.key.2,.slice a' h.f.length c',.int .i64 h.fr] 121)).drew) HHB.out
  have HHD:(W1.alloc (.cells #[.int .i64 h.key.1,.int .i64 h.key.2,.slice a' h.f.length c',.int .i64 h.fr] 121)).drew.heap[w.heap.size+1]? = some (.cells #[.int .i64 h.key.1,.int .i64 h.key.2,.slice a' h.f.length c',.int .i64 h.fr] 121 (0,0)):=by rw [← hsz];exact heap_alloc_new W1 _
  generalize (W1.alloc (.cells #[.int .i64 h.key.1,.int .i64 h.key.2,.slice a' h.f.length c',.int .i64 h.fr] 121)).drew=W2 at *
  have T2:=HTM.out.gr G2
  obtain ⟨es',m1,m2,hm12,hcut,hM'⟩:=Mp.cut Tryz.keyedK Tryz.underlying123 (HMP.out.kept (w':=W2.drew) (G2.block _ HMP.out.lt)) hlk HMM.out 0 112
  obtain ⟨X1,X2,hX12,hX1,hX2⟩:∃ X1 X2,Xs b=X1++(h,a',c')::X2∧X1.map mv=m1∧X2.map mv=m2:=by
   obtain ⟨X1,Y,e1,e2,e3⟩:=List.map_eq_append_iff.1 hm12
   obtain ⟨y,X2,e4,e5,e6⟩:=List.map_eq_cons_iff.1 e3
   have hy:y=(h,a',c'):=by
    have hyk:(mv y).1=(mv (h,a',c')).1:=by rw [e5];rfl
    have hd:=HMP.out.nod
    rw [List.map_map] at hd
    exact inj_map hd (by rw [e1,e4];simp) HH.out hyk
   exact ⟨X1,X2,by rw [e1,e4,hy],e2,e6⟩
  have XIF:=Hid.mk' (nod_key HMP.out.nod hX12)
  have XLE:(X1++X2).length<(Xs b).length:=by rw [hX12];simp
  rw [← hX1, ← hX2, ← List.map_append] at hM'
  have gd:Gr W2 W2.drew:=(Gr.refl W2).drew
  have FIN:=Tm.turn (T2.gr gd) hb (X1++X2) hM' (fun x hx=>(T2.gr gd).h.fi b hb x (((XIF.out x).1 hx).1))
  have hnm:r (w.heap.size+1) = .no:=HTM.out.b.top _ (Nat.le_succ _)
  have hnm2:r w.heap.size = .no:=HTM.out.b.top _ (Nat.le_refl _)
  have F2:=Hid.mk' ((Fr.gr (r:=r) (G2.drew)).trans FIN.2)
  have HHD3:=Hid.mk' ((FIN.2.keep _ (blk_lt (w:=W2.drew) HHD) (Or.inl hnm)).trans HHD)
  have q0:W2.cell? ⟨w.heap.size,0,none⟩=some (.int .i64 h.key.1):=by rw [cell_of_row _ _ _ _ _ _ HKB];rfl
  have q1:W2.cell? ⟨w.heap.size,1,none⟩=some (.int .i64 h.key.2):=by rw [cell_of_row _ _ _ _ _ _ HKB];rfl
  have c2:=T2.b.c0
  have cb2:=T2.b.hb b hb
  have TM3:=Hid.mk' FIN.1
  unfold pk at hcut
  clear FIN hM' hm12 hX1 hX2 hX12 gd T2 c0 cb k0 k1 HHD HKB hnm hnm2
  go_wp2_with fail
  go_region
  have HL2:Hid (∀ g,g∈l ↔ ∃ x∈(fun c=>if c=b then X1++X2 else Xs c) b,x.1=g):=fun g=>by
   simp only [if_true]
   rw [HL.out g]
   constructor
   ·rintro ⟨x,hx,rfl,hk⟩;exact ⟨x,(XIF.out x).2 ⟨hx,hk⟩,rfl⟩
   ·rintro ⟨x,hx,rfl⟩;exact ⟨x,((XIF.out x).1 hx).1,rfl,((XIF.out x).1 hx).2⟩
  have hX3:((fun c=>if c=b then X1++X2 else Xs c) b).length≤1048576:=by simp only [if_true];omega
  have FINX:Hid (∀ w' r' qs',Tm T r' w' (fun c=>if c=b then X1++X2 else Xs c) qs' cls→Fr r r' w w'→(∀ x y,(qs' x y).map Mm.ms=outB (fun x y=>(qs x y).map Mm.ms) b (outD l h) NB x y) → ∃ X' r' qs',(∀ y,y∈X'↔y∈Xs b∧y.1.key≠h.key)∧X'.length<(Xs b).length∧Tm T r' w' (fun c=>if c=b then X' else Xs c) qs' cls∧Fr r r' w w' ∧ ∀ x y,(qs' x y).map Mm.ms=outB (fun x y=>(qs x y).map Mm.ms) b (outD l h) NB x y):=fun w' r' qs' z1 z2 z3=>⟨X1++X2,r',qs',XIF.out,XLE,z1,z2,z3⟩
  clear HL hcut c2 cb2 q0 q1 G2
  generalize setBlock W2.drew (T.MB b) (.map es' clock)=W3 at *
  generalize (fun c=>if c=b then X1++X2 else Xs c)=Ys at *
  go_wp2_with fail
  refine (NBS.out W3 Ys TM3.out).mono ?_
  rintro e w1 ⟨v,rfl,ho,g1⟩
  obtain ⟨va,vk,rfl,hva⟩:=owns_shape ho
  have G1:=Hid.mk' g1
  have B1:=Hid.mk' (blk_gr g1 HHD3.out)
  have O1:=Hid.mk' ho
  have H1:Hid (Ho T r w1 Ys cls (outB (fun x y=>(qs x y).map Mm.ms) b (outD l h) (NB.take 0)) w1):=⟨r,qs,TM3.out.gr g1,Fr.refl _ _,fun x y=>by rw [List.take_zero,outB_nil]⟩
  have F3:=Hid.mk' (F2.out.trans (Fr.gr g1))
  have NO:Hid (∀ k,w.heap.size≤k→r k = .no):=HTM.out.b.top
  have HVA:=Hid.mk' hva
  have SZ3:=F2.out.size
  clear NBS HHD3 ho g1 hva F2
  go_wp2_with fail
  go_loopw [32] (fun i wr=>∃ q:Nat,q≤NB.length∧i = .int .i64 q∧Hid (Ho T r w1 Ys cls (outB (fun x y=>(qs x y).map Mm.ms) b (outD l h) (NB.take q)) wr)) (fun i _=>NB.length - (intOf i).toNat)
  case atStart=>exact ⟨0,Nat.zero_le _,rfl,H1⟩
  case round =>
   obtain ⟨q,hq,rfl,HO⟩:=hrel
   clear H1
   have hB:=HO.out.blk B1.out (Or.inl (NO.out _ (Nat.le_succ _)))
   have b0:wr.cell? ⟨w.heap.size+1,0,none⟩=some (.int .i64 h.key.1):=by rw [cell_of_row _ _ _ _ _ _ hB];rfl
   have b1:wr.cell? ⟨w.heap.size+1,1,none⟩=some (.int .i64 h.key.2):=by rw [cell_of_row _ _ _ _ _ _ hB];rfl
   have b2:wr.cell? ⟨w.heap.size+1,2,none⟩=some (.slice a' h.f.length c'):=by rw [cell_of_row _ _ _ _ _ _ hB];rfl
   have b3:wr.cell? ⟨w.heap.size+1,3,none⟩=some (.int .i64 h.fr):=by rw [cell_of_row _ _ _ _ _ _ hB];rfl
   have FIW:Hid (∀ r' w',Fr r r' w1 w'→FiR r' w' a' h.f):=fun r' w' k=>by
    have k2:=F3.out.trans k
    exact HF.out.keep k2.size (fun i hi hr=>k2.keep i hi (Or.inr hr)) k2.same
   clear hB
   by_cases hlt:q<NB.length
   ·obtain ⟨vb,rfl⟩:=HVA.out (by omega)
    have OW:Hid (wr.ownsRow W3.heap.size 3 1 (.slice (some ⟨vb,0,none⟩) NB.length vk) NB.length (ints NB)):=by
     obtain ⟨r',qs',z1,z2,z3⟩:=HO.out
     exact z2.owns O1.out (fun k hk=>NO.out k (by omega))
    have cq:wr.cell? ⟨vb,q,none⟩=some (.int .i64 (nat_ NB q)):=by rw [World.ownsRow.cellAt OW.out q (by omega)];simp [ints,nat_,hlt]
    have hmem:=NMEM.out _ (nat_mem hlt)
    have STEP:=Hid.mk' (outB_step (q:=fun x y=>(qs x y).map Mm.ms) (b:=b) (out:=outD l h) NND.out hlt)
    have LEN:=Hid.mk' (outB_len (q:=fun x y=>(qs x y).map Mm.ms) (b:=b) (out:=outD l h) NND.out hlt)
    have hlq:=HQ.out (nat_ NB q)
    clear OW
    generalize nat_ NB q=n at *
    by_cases hfr:(n:Int)=h.fr
    ·have hfr':((n:Int)==h.fr)=true:=by simpa using hfr
     have H2:Hid (Ho T r w1 Ys cls (outB (fun x y=>(qs x y).map Mm.ms) b (outD l h) (NB.take (q+1))) wr):=HO.out.cong fun x y=>by
      rw [STEP.out x y]
      have:(if x=b∧y=n then outD l h y else [])=[]:=by
       split
       ·rename_i hh;rw [hh.2];exact if_pos hfr
       ·rfl
      rw [this,List.append_nil]
     clear HO
     rw [hfr] at cq
     go_wp2_with fail
     exact ⟨⟨q+1,hlt,by simp,H2⟩,measM_dec _ _ hlt⟩
    ·have hfr':((n:Int)==h.fr)=false:=by simpa using hfr
     have FW:Hid (FiM wr a' h.f):=by
      obtain ⟨r',qs',z1,z2,z3⟩:=HO.out
      exact (FIW.out r' wr z2).m
     have OUT:Hid (outD l h n=subs (woT cov l n h)++(if isT cov l n h then [.uns h.key] else [])):=if_neg hfr
     have ISC:isT cov ((Ys b).map (·.1)) n h=isT cov l n h:=isT_cong (fun g=>by rw [HL2.out g,List.mem_map]) n h
     have HISC:=Hid.mk' ISC
     clear ISC
     have TW:=Hid.mk' (ho_toldWithout HO.out hb n h a' c' FW.out hX3)
     unfold hv at TW
     go_wp2_with fail
     refine TW.out.mono ?_
     rintro e w5 ⟨v5,L,rfl,ho5,hL1,hL2,g5⟩
     obtain ⟨r3,q3,z1,z2,z3⟩:=HO.out
     obtain ⟨xa,xk,rfl,hxa⟩:=owns_shape ho5
     have WOT:=Hid.mk' (woT_of HS.out HL2.out hL1 hL2)
     have LM:Hid (∀ x∈L,x∈Ys b):=fun x hx=>((hL2 x).1 hx).1
     have LLE:L.length≤1048576:=by
      have hnd:(L.map fun x=>x.1.key).Pairwise fun x y=>x≠y:=by rw [List.pairwise_map];exact hL1.imp (fun h=>klt_ne h)
      have:=keys_le (L.map fun x=>x.1.key) ((Ys b).map fun x=>x.1.key) hnd (fun k hk=>by
       obtain ⟨x,hx,rfl⟩:=List.mem_map.1 hk
       exact List.mem_map.2 ⟨x,((hL2 x).1 hx).1,rfl⟩)
      simp only [List.length_map] at this
      omega
     have H5:Hid (Ho T r3 w5 Ys cls (fun p y=>outB (fun x y=>(qs x y).map Mm.ms) b (outD l h) (NB.take q) p y++if p=b∧y=n then ((L.take 0).map fun x=>(Ms.sub x.1.key x.1.f:Ms (List Wnt) (List Atr))) else []) w5):=⟨r3,q3,z1.gr g5,Fr.refl _ _,fun x y=>by rw [z3];simp⟩
     have F5:=Hid.mk' (z2.trans (Fr.gr g5))
     have O5:=Hid.mk' ho5
     have N5:Hid (∀ k,wr.heap.size≤k→r3 k = .no):=z1.b.top
     have HXA:=Hid.mk' hxa
     clear TW HO z1 z2 z3 ho5 hL1 hL2 g5 b0 b1 b2 b3 hxa FW cq
     go_wp2_with fail
     go_loopw [46] (fun i w6=>∃ j:Nat,j≤L.length∧i = .int .i64 j∧Hid (Ho T r3 w5 Ys cls (fun p y=>outB (fun x y=>(qs x y).map Mm.ms) b (outD l h) (NB.take q) p y++if p=b∧y=n then ((L.take j).map fun x=>(Ms.sub x.1.key x.1.f:Ms (List Wnt) (List Atr))) else []) w6)) (fun i _=>L.length - (intOf i).toNat)
     case atStart=>exact ⟨0,Nat.zero_le _,rfl,H5⟩
     case round =>
      obtain ⟨j,hj,rfl,H6⟩:=hrel
      clear H5
      by_cases hjl:j<L.length
      ·obtain ⟨xb,rfl⟩:=HXA.out (by omega)
       obtain ⟨d0,d1,d2,d3⟩:=hcells_at L j hjl
       have O6:=H6.out
       obtain ⟨r',qs',z1,z2,z3⟩:=O6
       have O7:=z2.owns O5.out N5.out
       rw [← World.ownsRow.cellAt O7 _ (by omega)] at d0 d1 d2 d3
       have hmj:=LM.out _ (hat_mem hjl)
       have TK:=Hid.mk' (sub_take hjl)
       generalize hat L j=y at *
       have HMJ:=Hid.mk' hmj
       have H7:=Hid.mk' (H6.out.gr ((Gr.refl wr).alloc (.cells #[.int .i64 y.1.key.1,.int .i64 y.1.key.2,.slice y.2.1 y.1.f.length y.2.2,.int .i64 y.1.fr] 121)))
       have SN6:=Hid.mk' (ho_send H7.out hmem.2 ⟨.sub y.1.key y.1.f,y.2.1,y.2.2⟩ (m0:=.slice none 0 0) (m1:=.int .i64 y.1.key.1) (m2:=.int .i64 y.1.key.2) (m3:=.slice y.2.1 y.1.f.length y.2.2) rfl (fun r' qs' t _=>⟨(t.h.fi b hb y HMJ.out).2,(t.h.fi b hb y HMJ.out).1⟩) (by
        have:=List.length_take_le j L
        simp only [List.length_append,LEN.out,List.length_map,and_self,if_true,List.length_take]
        omega))
       clear hmj O7 z1 z2 z3 H6
       go_wp2_with fail
       refine SN6.out.mono ?_
       rintro e w7 ⟨rfl,H8⟩
       have H9:Hid (Ho T r3 w5 Ys cls (fun p y=>outB (fun x y=>(qs x y).map Mm.ms) b (outD l h) (NB.take q) p y++if p=b∧y=n then ((L.take (j+1)).map fun x=>(Ms.sub x.1.key x.1.f:Ms (List Wnt) (List Atr))) else []) w7):=H8.cong fun p z=>by
        by_cases hpz:p=b∧z=n
        ·simp only [if_pos hpz];rw [TK.out,List.append_assoc]
        ·simp only [if_neg hpz,List.append_nil]
       clear SN6 H7 H8 d0 d1 d2 d3
       go_wp2_with fail
       exact ⟨⟨j+1,hjl,by simp,H9⟩,measM_dec _ _ hjl⟩
      ·have hje:j=L.length:=by omega
       subst hje
       have H9:=Hid.mk' (H6.out.from_ F5.out)
       have FW:Hid (FiM wr a' h.f):=by
        obtain ⟨r',qs',z1,z2,z3⟩:=H9.out
        exact (FIW.out r' wr z2).m
       have hB:=H9.out.blk B1.out (Or.inl (NO.out _ (Nat.le_succ _)))
       have b0:wr.cell? ⟨w.heap.size+1,0,none⟩=some (.int .i64 h.key.1):=by rw [cell_of_row _ _ _ _ _ _ hB];rfl
       have b1:wr.cell? ⟨w.heap.size+1,1,none⟩=some (.int .i64 h.key.2):=by rw [cell_of_row _ _ _ _ _ _ hB];rfl
       have b2:wr.cell? ⟨w.heap.size+1,2,none⟩=some (.slice a' h.f.length c'):=by rw [cell_of_row _ _ _ _ _ _ hB];rfl
       have b3:wr.cell? ⟨w.heap.size+1,3,none⟩=some (.int .i64 h.fr):=by rw [cell_of_row _ _ _ _ _ _ hB];rfl
       have IT:=Hid.mk' (ho_isTold H9.out hb n h a' c' FW.out)
       unfold hv at IT
       rw [HISC.out] at IT
       clear hB H6
       go_wp2_with fail
       refine IT.out.mono ?_
       clear IT
       cases hit:isT cov l n h with
       | true =>
        rintro e w2 ⟨rfl,g2⟩
        have H2:=Hid.mk' (H9.out.gr g2)
        have hB2:=H2.out.blk B1.out (Or.inl (NO.out _ (Nat.le_succ _)))
        have b0':w2.cell? ⟨w.heap.size+1,0,none⟩=some (.int .i64 h.key.1):=by rw [cell_of_row _ _ _ _ _ _ hB2];rfl
        have b1':w2.cell? ⟨w.heap.size+1,1,none⟩=some (.int .i64 h.key.2):=by rw [cell_of_row _ _ _ _ _ _ hB2];rfl
        have SND:=Hid.mk' (ho_send H2.out hmem.2 ⟨.uns h.key,none,0⟩ (m0:=.slice none 0 0) (m1:=.int .i64 h.key.1) (m2:=.int .i64 h.key.2) (m3:=.slice none 0 0) rfl (fun r' qs' _ z=>HK.out) (by
         simp only [List.length_append,LEN.out,List.length_map,and_self,if_true,List.length_take]
         omega))
        clear hB2 g2 b0 b1 b2 b3 H9
        go_wp2_with fail
        refine SND.out.mono ?_
        rintro e w3 ⟨rfl,H3⟩
        have HE:Hid (Ho T r w1 Ys cls (outB (fun x y=>(qs x y).map Mm.ms) b (outD l h) (NB.take (q+1))) w3):=H3.cong fun p z=>by
         rw [STEP.out p z]
         by_cases hpz:p=b∧z=n
         ·simp only [if_pos hpz,List.take_length]
          rw [hpz.2,OUT.out,hit, ← WOT.out,List.append_assoc]
          simp [subs]
         ·simp only [if_neg hpz,List.append_nil]
        clear SND H2 H3
        go_wp2_with fail
        exact ⟨⟨q+1,hlt,by simp,HE⟩,measM_dec _ _ hlt⟩
       | false =>
        rintro e w3 ⟨rfl,g2⟩
        have HE:Hid (Ho T r w1 Ys cls (outB (fun x y=>(qs x y).map Mm.ms) b (outD l h) (NB.take (q+1))) w3):=(H9.out.gr g2).cong fun p z=>by
         rw [STEP.out p z]
         by_cases hpz:p=b∧z=n
         ·simp only [if_pos hpz,List.take_length]
          rw [hpz.2,OUT.out,hit, ← WOT.out]
          simp [subs]
         ·simp only [if_neg hpz,List.append_nil]
        clear H9 g2
        go_wp2_with fail
        exact ⟨⟨q+1,hlt,by simp,HE⟩,measM_dec _ _ hlt⟩
   ·have hqe:q=NB.length:=by omega
    subst hqe
    rw [List.take_length] at HO
    obtain ⟨r2,q2,z1,z2,z3⟩:=HO.out
    have FE:=Hid.mk' (FINX.out wr r2 q2 z1 (F3.out.trans z2) z3)
    clear z1 z2 z3 HO
    go_wp2_with fail
    exact bodyPost_end (v:=.tuple #[]) (by simp [results,Tryz.results42,go_sem]) rfl ⟨rfl,FE.out⟩
end Go.Proofs.YtecnfgikbmcgoaaGreat
namespace Go.Proofs.YtecnfgikbmcgoaaGreat
open Go.RowKit
abbrev Ts:=TS (List Wnt) (List Atr)
def Tw (T:Tc) (r:Nat→Rl) (w:World) (cls:List Cl) (s:Ts):Prop:=∃ Xs qs,Tm T r w Xs qs cls∧Vw T Xs qs s
theorem Tw.gr {T:Tc} {r:Nat→Rl} {w w':World} {cls:List Cl} {s:Ts} (h:Tw T r w cls s) (g:Gr w w'):Tw T r w' cls s:=by
 obtain ⟨Xs,qs,h1,h2⟩:=h
 exact ⟨Xs,qs,h1.gr g,h2⟩
theorem vw_len {T:Tc} {r:Nat→Rl} {w:World} {Xs:Nat→List Hm} {qs:Nat→Nat→List Mm} {cls:List Cl} {s:Ts} (h:Tm T r w Xs qs cls) (v:Vw T Xs qs s) {b:Nat} (hb:b<T.nb):(Xs b).length≤(s.held b).length:=by
 obtain ⟨_,es,clock,hm⟩:=h.h.at' b hb
 have hd:=hm.nod
 rw [List.map_map] at hd
 have hnd:((Xs b).map fun x=>x.1.key).Pairwise fun x y=>x≠y:=by
  rw [List.pairwise_map]
  have:=List.pairwise_map.1 hd
  exact this.imp (fun hab e=>hab (by show pk _=pk _;rw [e]))
 have:=keys_le ((Xs b).map fun x=>x.1.key) ((s.held b).map fun x=>x.key) hnd (fun k hk=>by
  obtain ⟨x,hx,rfl⟩:=List.mem_map.1 hk
  exact List.mem_map.2 ⟨x.1,(v.held b hb x.1).2 ⟨x,hx,rfl⟩,rfl⟩)
 simpa using this
theorem vw_qlen {T:Tc} {Xs:Nat→List Hm} {qs:Nat→Nat→List Mm} {s:Ts} (v:Vw T Xs qs s) (a b:Nat):(qs a b).length=(s.q a b).length:=by
 rw [v.q,List.length_map]
theorem vw_hold {T:Tc} {Xs:Nat→List Hm} {qs qs':Nat→Nat→List Mm} {s:Ts} (v:Vw T Xs qs s) (hadj:∀ a b,T.adj a b=true→a<T.nb∧b<T.nb) {b:Nat} (hb:b<T.nb) {h:Hw} (a':Option Addr) (c':Nat) (hs:Srt (s.held b)) (hn:∀ g∈s.held b,g.key≠h.key)
  (hq:∀ x y,(qs' x y).map Mm.ms=outB (fun x y=>(qs x y).map Mm.ms) b (outH (s.held b) h) (nbs T.adj T.nb b T.nb) x y):Vw T (fun c=>if c=b then Xs b++[(h,a',c')] else Xs c) qs' (s.turn cov T.adj b (ins h (s.held b))):=by
 refine ⟨fun c hc g=>?_,fun x y=>?_⟩
 ·by_cases hcb:c=b
  ·subst hcb
   simp only [TS.turn,if_true]
   rw [mem_ins]
   constructor
   ·rintro (rfl | ⟨h1,_⟩)
    ·exact ⟨(g,a',c'),by simp,rfl⟩
    ·obtain ⟨x,hx,rfl⟩:=(v.held c hc g).1 h1
     exact ⟨x,by simp [hx],rfl⟩
   ·rintro ⟨x,hx,rfl⟩
    rcases List.mem_append.1 hx with hx | hx
    ·have:=(v.held c hc x.1).2 ⟨x,hx,rfl⟩
     exact Or.inr ⟨this,hn _ this⟩
    ·rw [List.mem_singleton.1 hx];exact Or.inl rfl
  ·simp only [TS.turn,if_neg hcb]
   exact v.held c hc g
 ·rw [hq x y]
  simp only [TS.turn,outB]
  by_cases hx:x=b
  ·subst hx
   by_cases hy:T.adj x y=true
   ·have hm:y∈nbs T.adj T.nb x T.nb:=nbs_mem.2 ⟨(hadj x y hy).2,(hadj x y hy).2,hy⟩
    rw [if_pos ⟨rfl,hy⟩,if_pos ⟨rfl,hm⟩,v.q]
    congr 1
    unfold outH
    by_cases hf:(y:Int)=h.fr
    ·rw [if_pos hf,hf,chg_ins_same hs hn]
    ·rw [if_neg hf,chg_ins hs hn (fun e=>hf e.symm)]
   ·rw [if_neg (fun e=>hy e.2),if_neg (fun e=>hy (nbs_mem.1 e.2).2.2),List.append_nil,v.q]
  ·rw [if_neg (fun e=>hx e.1),if_neg (fun e=>hx e.1),List.append_nil,v.q]
theorem vw_drop {T:Tc} {Xs:Nat→List Hm} {qs qs':Nat→Nat→List Mm} {s:Ts} (v:Vw T Xs qs s) (hadj:∀ a b,T.adj a b=true→a<T.nb∧b<T.nb) {b:Nat} (hb:b<T.nb) {h:Hw} {X':List Hm} (hX:∀ y,y∈X'↔y∈Xs b∧y.1.key≠h.key) (hs:Srt (s.held b)) (hm:h∈s.held b)
  (hq:∀ x y,(qs' x y).map Mm.ms=outB (fun x y=>(qs x y).map Mm.ms) b (outD (del h.key (s.held b)) h) (nbs T.adj T.nb b T.nb) x y):Vw T (fun c=>if c=b then X' else Xs c) qs' (s.turn cov T.adj b (del h.key (s.held b))):=by
 refine ⟨fun c hc g=>?_,fun x y=>?_⟩
 ·by_cases hcb:c=b
  ·subst hcb
   simp only [TS.turn,if_true]
   rw [mem_del]
   constructor
   ·rintro ⟨h1,h2⟩
    obtain ⟨x,hx,rfl⟩:=(v.held c hc g).1 h1
    exact ⟨x,(hX x).2 ⟨hx,h2⟩,rfl⟩
   ·rintro ⟨x,hx,rfl⟩
    have:=(hX x).1 hx
    exact ⟨(v.held c hc x.1).2 ⟨x,this.1,rfl⟩,this.2⟩
  ·simp only [TS.turn,if_neg hcb]
   exact v.held c hc g
 ·rw [hq x y]
  simp only [TS.turn,outB]
  by_cases hx:x=b
  ·subst hx
   by_cases hy:T.adj x y=true
   ·have hm':y∈nbs T.adj T.nb x T.nb:=nbs_mem.2 ⟨(hadj x y hy).2,(hadj x y hy).2,hy⟩
    rw [if_pos ⟨rfl,hy⟩,if_pos ⟨rfl,hm'⟩,v.q]
    congr 1
    unfold outD
    by_cases hf:(y:Int)=h.fr
    ·rw [if_pos hf,hf,chg_del_same hs hm]
    ·rw [if_neg hf,chg_del hs hm (fun e=>hf e.symm)]
   ·rw [if_neg (fun e=>hy e.2),if_neg (fun e=>hy (nbs_mem.1 e.2).2.2),List.append_nil,v.q]
  ·rw [if_neg (fun e=>hx e.1),if_neg (fun e=>hx e.1),List.append_nil,v.q]
theorem vw_pop {T:Tc} {Xs:Nat→List Hm} {qs:Nat→Nat→List Mm} {s:Ts} (v:Vw T Xs qs s) (a b:Nat):Vw T Xs (popq qs a b) (s.pop a b):=by
 refine ⟨v.held,fun x y=>?_⟩
 simp only [TS.pop,popq]
 split
 ·rw [v.q,List.map_tail]
 ·exact v.q x y
structure Sm (T:Tc) (s:Ts):Prop where
 h:∀ b,b<T.nb→(s.held b).length≤1048576
 q:∀ a b,(s.q a b).length<549755813888
theorem hold_w (T:Tc) (r:Nat→Rl) (w:World) (Xs:Nat→List Hm) (qs:Nat→Nat→List Mm) (cls:List Cl) (s:Ts) (b:Nat) (h:Hw) (a':Option Addr) (c':Nat)
  (hT:Tm T r w Xs qs cls) (v:Vw T Xs qs s) (hb:b<T.nb) (hf:FiR r w a' h.f) (hk:I64 h.key.1∧I64 h.key.2) (hs:Srt (s.held b)) (hn:∀ g∈s.held b,g.key≠h.key) (hm:Sm T s) :
  Calls Tryz.prog 48 #[.pointer (some ⟨T.TB,0,none⟩),.int .i64 b,.agg (hv h a' c')] w fun e w'=>e = .returned (.tuple #[]) ∧ ∃ r',Tw T r' w' cls (s.turn cov T.adj b (ins h (s.held b)))∧Fr r r' w w':=by
 refine (hold_any T r w Xs qs cls b h a' c' (s.held b) hT hb hf hk hs (v.held b hb) (fun x hx=>hn _ ((v.held b hb x.1).2 ⟨x,hx,rfl⟩)) (Nat.le_trans (vw_len hT v hb) (hm.h b hb)) (fun n=>by rw [vw_qlen v];exact hm.q b n)).mono ?_
 rintro e w' ⟨he,r',qs',h1,h2,h3⟩
 exact ⟨he,r',⟨_,qs',h1,vw_hold v hT.b.adj hb a' c' hs hn h3⟩,h2⟩
theorem drop_w (T:Tc) (r:Nat→Rl) (w:World) (Xs:Nat→List Hm) (qs:Nat→Nat→List Mm) (cls:List Cl) (s:Ts) (b:Nat) (h:Hw)
  (hT:Tm T r w Xs qs cls) (v:Vw T Xs qs s) (hb:b<T.nb) (hs:Srt (s.held b)) (hh:h∈s.held b) (hm:Sm T s) :
  Calls Tryz.prog 42 #[.pointer (some ⟨T.TB,0,none⟩),.int .i64 b,.agg #[.int .i64 h.key.1,.int .i64 h.key.2]] w fun e w'=>e = .returned (.tuple #[]) ∧ ∃ r',Tw T r' w' cls (s.turn cov T.adj b (del h.key (s.held b)))∧Fr r r' w w':=by
 obtain ⟨⟨h',a',c'⟩,hx,rfl⟩:=(v.held b hb h).1 hh
 refine (drop_any T r w Xs qs cls b h' a' c' (del h'.key (s.held b)) hT hb hx (hs.del _) (fun g=>?_) (Nat.le_trans (vw_len hT v hb) (hm.h b hb)) (fun n=>by rw [vw_qlen v];exact hm.q b n)).mono ?_
 ·rw [mem_del,v.held b hb g]
  constructor
  ·rintro ⟨⟨x,hx,rfl⟩,h2⟩;exact ⟨x,hx,rfl,h2⟩
  ·rintro ⟨x,hx,rfl,h2⟩;exact ⟨⟨x,hx,rfl⟩,h2⟩
 ·rintro e w' ⟨he,X',r',qs',h0,_,h1,h2,h3⟩
  exact ⟨he,r',⟨_,qs',h1,vw_drop v hT.b.adj hb h0 hs hh h3⟩,h2⟩
set_option maxRecDepth 100000 in
set_option maxHeartbeats 4000000 in
theorem arrive_sub (T:Tc) (r:Nat→Rl) (w:World) (Xs:Nat→List Hm) (qs:Nat→Nat→List Mm) (cls:List Cl) (s:Ts) (a b:Nat) (k:Ky) (f:List Wnt) (ad:Option Addr) (cap:Nat)
  (hT:Tm T r w Xs qs cls) (v:Vw T Xs qs s) (hb:b<T.nb) (hf:FiR r w ad f) (hk:I64 k.1∧I64 k.2) (hs:Srt (s.held b)) (hn:∀ g∈s.held b,g.key≠k) (hm:Sm T s) :
  Calls Tryz.prog 75 #[.pointer (some ⟨T.TB,0,none⟩),.agg #[.int .i64 a,.int .i64 b],.agg #[.slice none 0 0,.int .i64 k.1,.int .i64 k.2,.slice ad f.length cap]] w fun e w'=>e = .returned (.tuple #[]) ∧ ∃ r',Tw T r' w' cls (s.turn cov T.adj b (ins ⟨k,f,a⟩ (s.held b)))∧Fr r r' w w':=by
 obtain ⟨fb,fo,hfa,_⟩:=hf.r
 have HT:=Hid.mk' hT
 have HV:=Hid.mk' v
 have HF:=Hid.mk' hf
 have HK:=Hid.mk' hk
 have HS:=Hid.mk' hs
 have HN:=Hid.mk' hn
 have HM:=Hid.mk' hm
 clear hT v hf hk hs hn hm
 subst hfa
 go_enter Tryz.func75,Tryz.ntmps75
 go_wp2_with fail
 go_quiet (fail)
 have G2:Hid (Gr w ((((w.alloc (.cells #[.int .i64 a,.int .i64 b] 81)).alloc (.cells #[.slice none 0 0,.int .i64 k.1,.int .i64 k.2,.slice (some ⟨fb,fo,none⟩) f.length cap] 172)).drewN nq))):=((((Gr.refl w).alloc _).alloc _).drewN nq)
 go_wp2_with fail
 refine (hold_w T r _ Xs qs cls s b ⟨k,f,a⟩ (some ⟨fb,fo,none⟩) cap (HT.out.gr G2.out) HV.out hb (HF.out.keep G2.out.size (fun i hi _=>G2.out.block i hi) (fun _ _=>rfl)) HK.out HS.out HN.out HM.out).mono ?_
 rintro e w2 ⟨rfl,r',h1,h2⟩
 have FE:=Hid.mk' (And.intro h1 ((Fr.gr (r:=r) G2.out).trans h2))
 clear h1 h2 G2
 go_wp2_with fail
 exact bodyPost_end (v:=.tuple #[]) (by simp [results,Tryz.results75,go_sem]) rfl ⟨rfl,r',FE.out⟩
set_option maxRecDepth 100000 in
set_option maxHeartbeats 4000000 in
theorem arrive_uns (T:Tc) (r:Nat→Rl) (w:World) (Xs:Nat→List Hm) (qs:Nat→Nat→List Mm) (cls:List Cl) (s:Ts) (a b:Nat) (h:Hw)
  (hT:Tm T r w Xs qs cls) (v:Vw T Xs qs s) (hb:b<T.nb) (hs:Srt (s.held b)) (hh:h∈s.held b) (hm:Sm T s) :
  Calls Tryz.prog 75 #[.pointer (some ⟨T.TB,0,none⟩),.agg #[.int .i64 a,.int .i64 b],.agg #[.slice none 0 0,.int .i64 h.key.1,.int .i64 h.key.2,.slice none 0 0]] w fun e w'=>e = .returned (.tuple #[]) ∧ ∃ r',Tw T r' w' cls (s.turn cov T.adj b (del h.key (s.held b)))∧Fr r r' w w':=by
 have HT:=Hid.mk' hT
 have HV:=Hid.mk' v
 have HS:=Hid.mk' hs
 have HN:=Hid.mk' hh
 have HM:=Hid.mk' hm
 clear hT v hs hh hm
 go_enter Tryz.func75,Tryz.ntmps75
 go_wp2_with fail
 go_quiet (fail)
 have G2:Hid (Gr w ((((w.alloc (.cells #[.int .i64 a,.int .i64 b] 81)).alloc (.cells #[.slice none 0 0,.int .i64 h.key.1,.int .i64 h.key.2,.slice none 0 0] 172)).drewN nq))):=((((Gr.refl w).alloc _).alloc _).drewN nq)
 go_wp2_with fail
 refine (drop_w T r _ Xs qs cls s b h (HT.out.gr G2.out) HV.out hb HS.out HN.out HM.out).mono ?_
 rintro e w2 ⟨rfl,r',h1,h2⟩
 have FE:=Hid.mk' (And.intro h1 ((Fr.gr (r:=r) G2.out).trans h2))
 clear h1 h2 G2
 go_wp2_with fail
 exact bodyPost_end (v:=.tuple #[]) (by simp [results,Tryz.results75,go_sem]) rfl ⟨rfl,r',FE.out⟩
theorem arrive_f (T:Tc) (r:Nat→Rl) (w:World) (Xs:Nat→List Hm) (qs:Nat→Nat→List Mm) (cls:List Cl) (s:Ts) (nxt:Nat→Nat→Int) (home:Int→Nat) (ok:List Wnt→Prop) (a b:Nat) (x:Mm) (rest:List (Ms (List Wnt) (List Atr))) (m0 m1 m2 m3:Value) (hx:mcells x=[m0,m1,m2,m3])
  (hT:Tm T r w Xs (popq qs a b) cls) (v:Vw T Xs qs s) (I:Inv cov T.adj nxt home ok s) (hab:T.adj a b=true) (hq:s.q a b=x.ms::rest) (hne:∀ e,x.ms ≠ .ev e) (hok:MmOk r w x) (hm:Sm T s) :
  Calls Tryz.prog 75 #[.pointer (some ⟨T.TB,0,none⟩),.agg #[.int .i64 a,.int .i64 b],.agg #[m0,m1,m2,m3]] w fun e w'=>e = .returned (.tuple #[]) ∧ ∃ r',Tw T r' w' cls (s.nstep cov T.adj mat a b x.ms)∧Fr r r' w w':=by
 have hb:=(hT.b.adj a b hab).2
 have v':=vw_pop v a b
 have hm':Sm T (s.pop a b):=⟨hm.h,fun p q=>by
  have:((s.pop a b).q p q).length≤(s.q p q).length:=by
   simp only [TS.pop];split
   ·rw [List.length_tail];omega
   ·exact Nat.le_refl _
  have:=hm.q p q
  omega⟩
 obtain ⟨ms,ad,cap⟩:=x
 unfold mcells at hx
 cases ms with
 | sub k f =>
  simp only [List.cons.injEq,and_true] at hx
  obtain ⟨rfl,rfl,rfl,rfl⟩:=hx
  exact arrive_sub T r w Xs (popq qs a b) cls (s.pop a b) a b k f ad cap hT v' hb hok.2 hok.1 (I.srt b) (head_sub I hab hq) hm'
 | uns k =>
  simp only [List.cons.injEq,and_true] at hx
  obtain ⟨rfl,rfl,rfl,rfl⟩:=hx
  obtain ⟨h,hh,rfl⟩:=head_uns I hab hq
  exact arrive_uns T r w Xs (popq qs a b) cls (s.pop a b) a b h hT v' hb (I.srt b) hh hm'
 | ev e=>exact absurd rfl (hne e)
set_option maxRecDepth 100000 in
set_option maxHeartbeats 4000000 in
theorem Step_f (T:Tc) (r:Nat→Rl) (w:World) (cls:List Cl) (s:Ts) (nxt:Nat→Nat→Int) (home:Int→Nat) (ok:List Wnt→Prop) (a b:Nat) (m:Ms (List Wnt) (List Atr)) (rest:List (Ms (List Wnt) (List Atr)))
  (hT:Tw T r w cls s) (I:Inv cov T.adj nxt home ok s) (hab:T.adj a b=true) (hq:s.q a b=m::rest) (hne:∀ e,m ≠ .ev e) (hm:Sm T s) :
  Calls Tryz.prog 37 #[.pointer (some ⟨T.TB,0,none⟩),.int .i64 a,.int .i64 b] w fun e w'=>e = .returned (.int .i64 0) ∧ ∃ r',Tw T r' w' cls (s.nstep cov T.adj mat a b m)∧Fr r r' w w':=by
 obtain ⟨Xs,qs,hT,hV⟩:=hT
 obtain ⟨x,xs,hqs,rfl⟩:∃ x xs,qs a b=x::xs∧x.ms=m:=by
  have:=hV.q a b
  rw [hq] at this
  obtain ⟨x,xs,e1,e2,e3⟩:=List.map_eq_cons_iff.1 this.symm
  exact ⟨x,xs,e1,e2⟩
 obtain ⟨a0,n0,c0,k1,k2,a3,n3,c3,hx⟩:=mcells_shape x
 have ga:Gr w (w.alloc (.cells #[.int .i64 a,.int .i64 b] 81)):=(Gr.refl w).alloc _
 have HB:=heap_alloc_new w (.cells #[.int .i64 a,.int .i64 b] 81)
 have hT1:=hT.gr ga
 obtain ⟨mm,es,clock,hmp,_,hall,hev⟩:=hT1.l.lk
 obtain ⟨v,hv⟩:=hev a b hab
 have hQ:Qr (w.alloc (.cells #[.int .i64 a,.int .i64 b] 81)) 172 4 (fun k=>r k = .qu a b) v (xs.length+1) ((qs a b).flatMap mcells):=by
  obtain ⟨a',b',e,_,hQ⟩:=hall _ v hv
  have:=pk_inj e
  simp only [Prod.mk.injEq,Int.natCast_inj] at this
  rw [← this.1, ← this.2] at hQ
  rw [show xs.length+1=(qs a b).length by rw [hqs];rfl];exact hQ
 obtain ⟨va,vc,rfl⟩:=hQ.shape
 have hltn:=hT.b.adj a b hab
 have hnb:=hT.b.nb8
 obtain ⟨lk,hlk⟩:=keyE ((a:Int),(b:Int)) ⟨by omega,by omega⟩ ⟨by omega,by omega⟩
 have hlu:∀ n:Nat,(Instr.lookup 117 (.map (some T.LB)) (.agg #[.int .i64 a,.int .i64 b]) false).run Tryz.prog ((w.alloc (.cells #[.int .i64 a,.int .i64 b] 81)).drewN n) = .ok (.slice va (xs.length+1) vc) ((w.alloc (.cells #[.int .i64 a,.int .i64 b] 81)).drewN n):=fun n=>Mp.look_yes Tryz.keyedE Tryz.underlying117 (hmp.kept (by rw [World.heap_drewN])) hlk hv false
 have hc2:=hT1.b.c2
 have ka0:(w.alloc (.cells #[.int .i64 a,.int .i64 b] 81)).cell? ⟨w.heap.size,0,none⟩=some (.int .i64 a):=by rw [cell_of_row _ _ _ _ _ _ HB];rfl
 have ka1:(w.alloc (.cells #[.int .i64 a,.int .i64 b] 81)).cell? ⟨w.heap.size,1,none⟩=some (.int .i64 b):=by rw [cell_of_row _ _ _ _ _ _ HB];rfl
 have hz:((xs.length:Int)+1==0)=false:=by simp;omega
 have HT1:=Hid.mk' hT1
 have HV:=Hid.mk' hV
 have HI:=Hid.mk' I
 have HQ:=Hid.mk' hq
 have HQS:=Hid.mk' hqs
 have HX:=Hid.mk' hx
 have HNE:=Hid.mk' hne
 have HM:=Hid.mk' hm
 have GA:=Hid.mk' ga
 have HTOP:=Hid.mk' hT.b.top
 have hTB:=hT1.tlt
 have HHB:=Hid.mk' HB
 clear hT hV I hq hqs hx hne hm hall hev hv hQ hmp hT1 ga HB
 go_enter Tryz.func37,Tryz.ntmps37
 go_wp2_with fail
 generalize (w.alloc (.cells #[.int .i64 a,.int .i64 b] 81))=W1 at *
 go_quiet (fail)
 have gd:=(Gr.refl W1).drewN nq
 have T2:=HT1.out.gr gd
 have G2:=Hid.mk' (GA.out.drewN nq)
 have HB2:=blk_gr gd HHB.out
 clear hlu ka0 ka1 hc2 HT1
 go_wp2_with fail
 generalize W1.drewN nq=W2 at *
 have rb:r w.heap.size = .no:=by
  rcases Nat.lt_or_ge w.heap.size w.heap.size with h | h
  ·omega
  ·exact HTOP.out _ h
 have ka0:W2.cell? ⟨w.heap.size,0,none⟩=some (.int .i64 a):=by rw [cell_of_row _ _ _ _ _ _ HB2];rfl
 have ka1:W2.cell? ⟨w.heap.size,1,none⟩=some (.int .i64 b):=by rw [cell_of_row _ _ _ _ _ _ HB2];rfl
 have TF:Hid (∀ W3,W3=W2.drew→Calls Tryz.prog 76 #[.pointer (some ⟨T.TB,0,none⟩),.agg #[.int .i64 a,.int .i64 b]] W3 fun e w'=>e = .returned (.agg #[.slice a0 n0 c0,.int .i64 k1,.int .i64 k2,.slice a3 n3 c3])∧Tm T r w' Xs (popq qs a b) cls∧Fr r r W3 w'∧w'.cell? ⟨w.heap.size,0,none⟩=some (.int .i64 a)∧w'.cell? ⟨w.heap.size,1,none⟩=some (.int .i64 b)):=by
  intro W3 e
  subst e
  refine (takeFirst_any T r W2.drew Xs qs cls a b x xs a0 a3 n0 c0 n3 c3 k1 k2 HX.out (T2.gr (Gr.refl W2).drew) hab HQS.out).mono ?_
  rintro e w' ⟨h1,h2,h3⟩
  have hk:=(h3.keep w.heap.size (blk_lt (w:=W2.drew) HB2) (Or.inl rb)).trans HB2
  exact ⟨h1,h2,h3,by rw [cell_of_row _ _ _ _ _ _ hk];rfl,by rw [cell_of_row _ _ _ _ _ _ hk];rfl⟩
 have MOK:Hid (∀ w',Fr r r W2.drew w'→MmOk r w' x):=fun w' k=>by
  have h1:MmOk r W2.drew x:=(T2.gr (Gr.refl W2).drew).l.ms a b x (by rw [HQS.out];simp)
  exact h1.keep k.size (fun i hi hr=>k.keep i hi (Or.inr hr)) k.same
 clear T2 HB2 gd
 go_region_with (first
  | (go_at_call 76;refine (TF.out _ rfl).mono ?_;rintro e w3 ⟨rfl,h1,h2,ka0',ka1'⟩)
  | (go_at_call 75;refine (arrive_f T r _ Xs qs cls s nxt home ok a b x rest _ _ _ _ HX.out h1 HV.out HI.out hab HQ.out HNE.out (MOK.out _ h2) HM.out).mono ?_;rintro e w4 ⟨rfl,FE⟩))
 all_goals
  have GG:=Hid.mk' ((Fr.gr (r:=r) G2.out.drew).trans h2)
  have FE2:=Hid.mk' FE
  clear h1 h2 ka0' ka1' FE TF MOK
  go_wp2_with fail
  go_ret
  obtain ⟨r',z1,z2⟩:=FE2.out
  exact ⟨rfl,r',z1,GG.out.trans z2⟩
end Go.Proofs.YtecnfgikbmcgoaaGreat
