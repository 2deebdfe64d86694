import Derived.Test.YtecnfgikbmcgoaaGreatG11
import Derived.Test.YtecnfgikbmcgoaaGreatG6
namespace Go.Proofs.YtecnfgikbmcgoaaGreat
open Go.RowKit
open Go.Maps (Keyed)
open Go.ChangeMaps (setBlock)
abbrev Qb:=Nat→Nat→List (Ms (List Wnt) (List Atr))
def Ho (T:Tc) (r:Nat→Rl) (w0:World) (Xs:Nat→List Hm) (cls:List Cl) (base:Qb) (wr:World):Prop :=
 ∃ r' qs',Tm T r' wr Xs qs' cls∧Fr r r' w0 wr ∧ ∀ x y,(qs' x y).map Mm.ms=base x y
section
variable {T:Tc} {r:Nat→Rl} {w0 wr:World} {Xs:Nat→List Hm} {cls:List Cl} {base:Qb}
theorem Ho.cong {base':Qb} (h:Ho T r w0 Xs cls base wr) (e:∀ x y,base x y=base' x y):Ho T r w0 Xs cls base' wr:=by
 obtain ⟨r',qs',h1,h2,h3⟩:=h
 exact ⟨r',qs',h1,h2,fun x y=>(h3 x y).trans (e x y)⟩
theorem Ho.gr {w':World} (h:Ho T r w0 Xs cls base wr) (g:Gr wr w'):Ho T r w0 Xs cls base w':=by
 obtain ⟨r',qs',h1,h2,h3⟩:=h
 exact ⟨r',qs',h1.gr g,h2.trans (Fr.gr g),h3⟩
theorem Ho.blk (h:Ho T r w0 Xs cls base wr) {k:Nat} {o:Obj} (hk:w0.heap[k]? = some o) (hr:r k = .no∨r k = .fx):wr.heap[k]? = some o:=by
 obtain ⟨_,_,_,h2,_⟩:=h
 exact (h2.keep k (blk_lt hk) hr).trans hk
theorem Ho.from_ {w1:World} {r1:Nat→Rl} (h:Ho T r1 w1 Xs cls base wr) (k:Fr r r1 w0 w1):Ho T r w0 Xs cls base wr:=by
 obtain ⟨r',qs',h1,h2,h3⟩:=h
 exact ⟨r',qs',h1,k.trans h2,h3⟩
theorem Fr.owns {r r':Nat→Rl} {w w':World} {bs n size:Nat} {e:TypeId} {v:Value} {xs:List Value} (h:Fr r r' w w') (o:w.ownsRow bs e size v n xs) (hr:∀ k,bs≤k→r k = .no):w'.ownsRow bs e size v n xs:=by
 refine ⟨o.1,?_⟩
 rcases o.2 with h2 | ⟨g,cap,cur,hv,hb,hh,rr⟩
 ·exact Or.inl h2
 ·exact Or.inr ⟨g,cap,cur,hv,hb,(h.keep g (blk_lt hh) (Or.inl (hr g hb))).trans hh,rr⟩
theorem ho_send (h:Ho T r w0 Xs cls base wr) {a b:Nat} (hab:T.adj a b=true) (x:Mm) {m0 m1 m2 m3:Value} (hx:mcells x=[m0,m1,m2,m3])
  (hok:∀ r' qs',Tm T r' wr Xs qs' cls→Fr r r' w0 wr→MmOk r' wr x) (hn:(base a b).length<1099511627776) :
  Calls Tryz.prog 80 #[.pointer (some ⟨T.TB,0,none⟩),.int .i64 a,.int .i64 b,.agg #[m0,m1,m2,m3]] wr fun e w'=>e = .returned (.tuple #[])∧Ho T r w0 Xs cls (fun p q=>base p q++if p=a∧q=b then [x.ms] else []) w':=by
 obtain ⟨r',qs',h1,h2,h3⟩:=h
 have hl:(qs' a b).length<1099511627776:=by rw [← List.length_map (f:=Mm.ms),h3];exact hn
 refine (send_any T r' wr Xs qs' cls a b x m0 m1 m2 m3 hx h1 hab (hok r' qs' h1 h2) hl).mono ?_
 rintro e w' ⟨he,r2,k1,k2⟩
 refine ⟨he,r2,_,k1,h2.trans k2,fun p q=>?_⟩
 unfold pushq
 by_cases hpq:p=a∧q=b
 ·show _=base p q++(if p=a∧q=b then [x.ms] else [])
  rw [if_pos hpq,if_pos hpq,List.map_append,h3];rfl
 ·show _=base p q++(if p=a∧q=b then [x.ms] else [])
  rw [if_neg hpq,if_neg hpq,h3,List.append_nil]
theorem ho_isTold (h:Ho T r w0 Xs cls base wr) {b:Nat} (hb:b<T.nb) (n:Int) (g:Hw) (a':Option Addr) (c':Nat) (hg:FiM wr a' g.f) :
  Calls Tryz.prog 81 #[.pointer (some ⟨T.TB,0,none⟩),.int .i64 b,.int .i64 n,.agg (hv g a' c')] wr fun e w'=>e = .returned (.bool (isT cov ((Xs b).map (·.1)) n g))∧Gr wr w':=by
 obtain ⟨r',qs',h1,h2,h3⟩:=h
 obtain ⟨es,clock,hp⟩:=h1.hp hb
 exact isTold_any T.TB T.HB 0 T.nb T.hcap b (T.MB b) n g a' c' (Xs b) es clock T.ml wr h1.b.c0 (by rw [Nat.zero_add];exact h1.b.hb b hb) hb h1.tlt h1.hlt hp hg h1.b.ml
theorem ho_toldWithout (h:Ho T r w0 Xs cls base wr) {b:Nat} (hb:b<T.nb) (n:Int) (g:Hw) (a':Option Addr) (c':Nat) (hg:FiM wr a' g.f) (hX:(Xs b).length≤1048576) :
  Calls Tryz.prog 79 #[.pointer (some ⟨T.TB,0,none⟩),.int .i64 b,.int .i64 n,.agg (hv g a' c')] wr fun e w'=>∃ v L,e = .returned v∧w'.ownsRow wr.heap.size 121 4 v L.length (hcells L)∧L.Pairwise (fun x y=>klt x.1.key y.1.key=true)∧(∀ x,x∈L↔x∈Xs b∧woP (Xs b) n g x=true)∧Gr wr w':=by
 obtain ⟨r',qs',h1,h2,h3⟩:=h
 obtain ⟨es,clock,hp⟩:=h1.hp hb
 exact toldWithout_any T.TB T.HB 0 T.nb T.hcap b (T.MB b) n g a' c' (Xs b) es clock T.ml wr h1.b.c0 (by rw [Nat.zero_add];exact h1.b.hb b hb) hb h1.tlt h1.hlt hX hp hg h1.b.ml
theorem ho_neighbours (h:Ho T r w0 Xs cls base wr) {b:Nat} (hb:b<T.nb) :
  Calls Tryz.prog 43 #[.pointer (some ⟨T.TB,0,none⟩),.int .i64 b] wr fun e w'=>∃ v,e = .returned v∧w'.ownsRow wr.heap.size 3 1 v (nbs T.adj T.nb b T.nb).length (ints (nbs T.adj T.nb b T.nb))∧Gr wr w':=by
 obtain ⟨r',qs',h1,h2,h3⟩:=h
 obtain ⟨m,es,clock,hm,hl,_⟩:=h1.l.lk
 exact neighbours_any T.TB T.LB T.HB 0 T.nb T.hcap b T.adj m es clock wr h1.b.nb8 hb h1.b.c0 h1.b.c2 h1.tlt hm hl
end
theorem nbs_mem {adj:Nat→Nat→Bool} {nb b k n:Nat}:n∈nbs adj nb b k↔n<k∧n<nb∧adj b n=true:=by simp [nbs]
theorem nbs_nd (adj:Nat→Nat→Bool) (nb b k:Nat):(nbs adj nb b k).Nodup:=(List.nodup_range).filter _
def nat_ (l:List Nat) (i:Nat):Nat:=l.getD i 0
theorem nat_take {l:List Nat} {i:Nat} (h:i<l.length):l.take (i+1)=l.take i++[nat_ l i]:=by
 rw [List.take_succ_eq_append_getElem h];simp [nat_,h]
theorem nat_mem {l:List Nat} {i:Nat} (h:i<l.length):nat_ l i∈l:=by unfold nat_;exact getD_mem h 0
theorem nat_not {l:List Nat} (hn:l.Nodup) {i:Nat} (h:i<l.length):nat_ l i ∉ l.take i:=by
 have h1:(l.take (i+1)).Nodup:=hn.sublist (List.take_sublist _ _)
 rw [nat_take h,List.nodup_append] at h1
 exact fun hm=>h1.2.2 _ hm _ (by simp) rfl
def outB (q:Qb) (b:Nat) (out:Nat→List (Ms (List Wnt) (List Atr))) (l:List Nat):Qb:=fun x y=>q x y++if x=b∧y∈l then out y else []
theorem outB_nil (q:Qb) (b:Nat) (out:Nat→List (Ms (List Wnt) (List Atr))) (x y:Nat):outB q b out [] x y=q x y:=by simp [outB]
theorem outB_step {q:Qb} {b:Nat} {out:Nat→List (Ms (List Wnt) (List Atr))} {l:List Nat} (hn:l.Nodup) {i:Nat} (hi:i<l.length) (x y:Nat):outB q b out (l.take (i+1)) x y=outB q b out (l.take i) x y++if x=b∧y=nat_ l i then out y else []:=by
 have h1:=nat_not hn hi
 rw [nat_take hi]
 unfold outB
 rw [List.append_assoc]
 congr 1
 by_cases hx:x=b
 ·subst hx
  by_cases hy:y=nat_ l i
  ·subst hy;simp [h1]
  ·simp [hy]
 ·simp [hx]
theorem outB_len {q:Qb} {b:Nat} {out:Nat→List (Ms (List Wnt) (List Atr))} {l:List Nat} {i:Nat} (hn:l.Nodup) (hi:i<l.length):outB q b out (l.take i) b (nat_ l i)=q b (nat_ l i):=by
 unfold outB
 rw [if_neg (fun h=>nat_not hn hi h.2),List.append_nil]
def hat (L:List Hm) (j:Nat):Hm:=L.getD j (⟨(0,0),[],0⟩,none,0)
theorem hat_mem {L:List Hm} {j:Nat} (h:j<L.length):hat L j∈L:=by unfold hat;exact getD_mem h _
theorem hat_take {L:List Hm} {j:Nat} (h:j<L.length):L.take (j+1)=L.take j++[hat L j]:=by
 rw [List.take_succ_eq_append_getElem h];simp [hat,h]
theorem hcells_at:∀ (L:List Hm) (j:Nat),j<L.length→(hcells L)[j*4]? = some (.int .i64 (hat L j).1.key.1)∧(hcells L)[j*4+1]? = some (.int .i64 (hat L j).1.key.2)∧(hcells L)[j*4+1+1]? = some (.slice (hat L j).2.1 (hat L j).1.f.length (hat L j).2.2)∧(hcells L)[j*4+1+1+1]? = some (.int .i64 (hat L j).1.fr)
 | [],j,h=>by simp at h
 | x::l,0,_=>by simp [hcells,hcell,hat]
 | x::l,j+1,h=>by
  have ih:=hcells_at l j (by simpa using h)
  have e:∀ k,(hcells (x::l))[(j+1)*4+k]? = (hcells l)[j*4+k]? := fun k=>by
   have:(j+1)*4+k=(j*4+k)+4:=by omega
   rw [this];simp [hcells,hcell,List.getElem?_cons_succ]
  have hh:hat (x::l) (j+1)=hat l j:=by simp [hat]
  rw [hh]
  exact ⟨(e 0).trans ih.1,(e 1).trans ih.2.1,(e 2).trans ih.2.2.1,(e 3).trans ih.2.2.2⟩
def outH (l:List Hw) (h:Hw) (n:Nat):List (Ms (List Wnt) (List Atr)):=if (n:Int)=h.fr then [] else (if isT cov l n h then [.sub h.key h.f] else [])++unss (woT cov l n h)
theorem uns_take {L:List Hm} {j:Nat} (h:j<L.length):((L.take (j+1)).map fun x=>(Ms.uns x.1.key:Ms (List Wnt) (List Atr)))=((L.take j).map fun x=>.uns x.1.key)++[.uns (hat L j).1.key]:=by
 rw [hat_take h,List.map_append];rfl
set_option maxRecDepth 100000 in
set_option maxHeartbeats 4000000 in
theorem hold_any (T:Tc) (r:Nat→Rl) (w:World) (Xs:Nat→List Hm) (qs:Nat→Nat→List Mm) (cls:List Cl) (b:Nat) (h:Hw) (a':Option Addr) (c':Nat) (l:List Hw)
  (hT:Tm T r w Xs qs cls) (hb:b<T.nb) (hf:FiR r w a' h.f) (hk:I64 h.key.1∧I64 h.key.2) (hs:Srt l) (hl:∀ g,g∈l ↔ ∃ x∈Xs b,x.1=g) (hnew:∀ x∈Xs b,x.1.key≠h.key) (hX:(Xs b).length≤1048576) (hq:∀ n,(qs b n).length<549755813888) :
  Calls Tryz.prog 48 #[.pointer (some ⟨T.TB,0,none⟩),.int .i64 b,.agg (hv h a' c')] w fun e w'=>e = .returned (.tuple #[]) ∧ ∃ r' qs',Tm T r' w' (fun c=>if c=b then Xs b++[(h,a',c')] else Xs c) qs' cls∧Fr r r' w w' ∧ ∀ x y,(qs' x y).map Mm.ms=outB (fun x y=>(qs x y).map Mm.ms) b (outH l h) (nbs T.adj T.nb b T.nb) x y:=by
 unfold hv
 have ga:Gr w (w.alloc (.cells #[.int .i64 h.key.1,.int .i64 h.key.2,.slice a' h.f.length c',.int .i64 h.fr] 121)):=(Gr.refl w).alloc _
 have HB:=heap_alloc_new w (.cells #[.int .i64 h.key.1,.int .i64 h.key.2,.slice a' h.f.length c',.int .i64 h.fr] 121)
 have H0:Ho T r (w.alloc (.cells #[.int .i64 h.key.1,.int .i64 h.key.2,.slice a' h.f.length c',.int .i64 h.fr] 121)) Xs cls (fun x y=>(qs x y).map Mm.ms) (w.alloc (.cells #[.int .i64 h.key.1,.int .i64 h.key.2,.slice a' h.f.length c',.int .i64 h.fr] 121)):=⟨r,qs,hT.gr ga,Fr.refl _ _,fun _ _=>rfl⟩
 have HTM:=Hid.mk' hT
 have HNB:=hT.b.nb8
 have HF:=Hid.mk' hf
 have HK:=Hid.mk' hk
 have HS:=Hid.mk' hs
 have HL:=Hid.mk' hl
 have HNEW:=Hid.mk' hnew
 have HQ:=Hid.mk' hq
 have NBS:=Hid.mk' (ho_neighbours H0 hb)
 have GA:=Hid.mk' ga
 have HHB:=Hid.mk' HB
 have NMEM:Hid (∀ n,n∈nbs T.adj T.nb b T.nb→n<T.nb∧T.adj b n=true):=fun n hn=>(nbs_mem.1 hn).2
 have NND:=Hid.mk' (nbs_nd T.adj T.nb b T.nb)
 have NLE:=nbs_le T.adj T.nb b T.nb
 clear hT hf hk hs hl hnew hq ga HB H0
 generalize nbs T.adj T.nb b T.nb=NB at *
 go_enter Tryz.func48,Tryz.ntmps48
 go_wp2_with fail
 refine NBS.out.mono ?_
 rintro e w1 ⟨v,rfl,ho,g1⟩
 obtain ⟨va,vk,rfl,hva⟩:=owns_shape ho
 have G1:=Hid.mk' (Gr.call GA.out g1)
 have B1:=Hid.mk' (blk_gr g1 HHB.out)
 have O1:=Hid.mk' ho
 have H1:Hid (Ho T r w1 Xs cls (outB (fun x y=>(qs x y).map Mm.ms) b (outH l h) (NB.take 0)) w1):=⟨r,qs,HTM.out.gr G1.out,Fr.refl _ _,fun x y=>by rw [List.take_zero,outB_nil]⟩
 have NO:Hid (∀ k,w.heap.size≤k→r k = .no):=HTM.out.b.top
 have HVA:=Hid.mk' hva
 clear NBS HHB GA ho g1 hva
 go_wp2_with fail
 go_loopw [14] (fun i wr=>∃ q:Nat,q≤NB.length∧i = .int .i64 q∧Hid (Ho T r w1 Xs cls (outB (fun x y=>(qs x y).map Mm.ms) b (outH l h) (NB.take q)) wr)) (fun i _=>NB.length - (intOf i).toNat)
 case atStart=>exact ⟨0,Nat.zero_le _,rfl,H1⟩
 case round =>
  obtain ⟨q,hq,rfl,HO⟩:=hrel
  clear H1
  have hB:=HO.out.blk B1.out (Or.inl (NO.out _ (Nat.le_refl _)))
  have b0:wr.cell? ⟨w.heap.size,0,none⟩=some (.int .i64 h.key.1):=by rw [cell_of_row _ _ _ _ _ _ hB];rfl
  have b1:wr.cell? ⟨w.heap.size,1,none⟩=some (.int .i64 h.key.2):=by rw [cell_of_row _ _ _ _ _ _ hB];rfl
  have b2:wr.cell? ⟨w.heap.size,2,none⟩=some (.slice a' h.f.length c'):=by rw [cell_of_row _ _ _ _ _ _ hB];rfl
  have b3:wr.cell? ⟨w.heap.size,3,none⟩=some (.int .i64 h.fr):=by rw [cell_of_row _ _ _ _ _ _ hB];rfl
  have FIW:Hid (∀ r' w',Fr r r' w1 w'→FiR r' w' a' h.f):=fun r' w' k=>by
   have k2:=(Fr.gr (r:=r) G1.out).trans k
   exact HF.out.keep k2.size (fun i hi hr=>k2.keep i hi (Or.inr hr)) k2.same
  have HBB:=Hid.mk' hB
  clear hB
  by_cases hlt:q<NB.length
  ·obtain ⟨vb,rfl⟩:=HVA.out (by omega)
   have OW:Hid (wr.ownsRow (w.alloc (.cells #[.int .i64 h.key.1,.int .i64 h.key.2,.slice a' h.f.length c',.int .i64 h.fr] 121)).heap.size 3 1 (.slice (some ⟨vb,0,none⟩) NB.length vk) NB.length (ints NB)):=by
    obtain ⟨r',qs',z1,z2,z3⟩:=HO.out
    exact z2.owns O1.out (fun k hk=>NO.out k (by rw [size_alloc'] at hk;omega))
   have cq:wr.cell? ⟨vb,q,none⟩=some (.int .i64 (nat_ NB q)):=by rw [World.ownsRow.cellAt OW.out q (by omega)];simp [ints,nat_,hlt]
   have hmem:=NMEM.out _ (nat_mem hlt)
   have STEP:=Hid.mk' (outB_step (q:=fun x y=>(qs x y).map Mm.ms) (b:=b) (out:=outH l h) NND.out hlt)
   have LEN:=Hid.mk' (outB_len (q:=fun x y=>(qs x y).map Mm.ms) (b:=b) (out:=outH l h) NND.out hlt)
   have hlq:=HQ.out (nat_ NB q)
   clear OW
   generalize nat_ NB q=n at *
   by_cases hfr:(n:Int)=h.fr
   ·have hfr':((n:Int)==h.fr)=true:=by simpa using hfr
    have H2:Hid (Ho T r w1 Xs cls (outB (fun x y=>(qs x y).map Mm.ms) b (outH l h) (NB.take (q+1))) wr):=HO.out.cong fun x y=>by
     rw [STEP.out x y]
     have:(if x=b∧y=n then outH l h y else [])=[]:=by
      split
      ·rename_i hh;rw [hh.2];exact if_pos hfr
      ·rfl
     rw [this,List.append_nil]
    clear HO
    rw [hfr] at cq
    go_wp2_with fail
    exact ⟨⟨q+1,hlt,by simp,H2⟩,measM_dec _ _ hlt⟩
   ·have hfr':((n:Int)==h.fr)=false:=by simpa using hfr
    have FW:Hid (FiM wr a' h.f):=by
     obtain ⟨r',qs',z1,z2,z3⟩:=HO.out
     exact (FIW.out r' wr z2).m
    have IT:=Hid.mk' (ho_isTold HO.out hb n h a' c' FW.out)
    have HW1:Hid (∀ w2,Gr wr w2→w2.heap[w.heap.size]? = some (.cells #[.int .i64 h.key.1,.int .i64 h.key.2,.slice a' h.f.length c',.int .i64 h.fr] 121 (0,0))):=fun w2 g=>blk_gr g HBB.out
    have OUT:Hid (outH l h n=(if isT cov l n h then [.sub h.key h.f] else [])++unss (woT cov l n h)):=if_neg hfr
    have ISC:isT cov ((Xs b).map (·.1)) n h=isT cov l n h:=isT_cong (fun g=>by rw [HL.out g,List.mem_map]) n h
    unfold hv at IT
    go_wp2_with fail
    refine IT.out.mono ?_
    rw [ISC]
    clear IT ISC
    cases hit:isT cov l n h with
    | true =>
     rintro e w2 ⟨rfl,g2⟩
     have H2:=Hid.mk' (HO.out.gr g2)
     have hB2:=HW1.out w2 g2
     have b0':w2.cell? ⟨w.heap.size,0,none⟩=some (.int .i64 h.key.1):=by rw [cell_of_row _ _ _ _ _ _ hB2];rfl
     have b1':w2.cell? ⟨w.heap.size,1,none⟩=some (.int .i64 h.key.2):=by rw [cell_of_row _ _ _ _ _ _ hB2];rfl
     have b2':w2.cell? ⟨w.heap.size,2,none⟩=some (.slice a' h.f.length c'):=by rw [cell_of_row _ _ _ _ _ _ hB2];rfl
     have b3':w2.cell? ⟨w.heap.size,3,none⟩=some (.int .i64 h.fr):=by rw [cell_of_row _ _ _ _ _ _ hB2];rfl
     have SND:=Hid.mk' (ho_send H2.out hmem.2 ⟨.sub h.key h.f,a',c'⟩ (m0:=.slice none 0 0) (m1:=.int .i64 h.key.1) (m2:=.int .i64 h.key.2) (m3:=.slice a' h.f.length c') rfl (fun r' qs' _ z=>⟨HK.out,FIW.out r' w2 z⟩) (by rw [LEN.out,List.length_map];omega))
     clear hB2 g2 b0 b1 b2 b3 HO
     go_wp2_with fail
     refine SND.out.mono ?_
     rintro e w3 ⟨rfl,H3⟩
     have H3:=Hid.mk' H3
     have OUT2:Hid (outH l h n=[.sub h.key h.f]++unss (woT cov l n h)):=by
      have:=OUT.out
      rw [hit] at this;exact this
     clear SND H2 OUT b0' b1' b2' b3'
     have OUT:=OUT2
     clear OUT2
     have FW3:Hid (FiM w3 a' h.f):=by
      obtain ⟨r',qs',z1,z2,z3⟩:=H3.out
      exact (FIW.out r' w3 z2).m
     have hB3:=H3.out.blk B1.out (Or.inl (NO.out _ (Nat.le_refl _)))
     have b0':w3.cell? ⟨w.heap.size,0,none⟩=some (.int .i64 h.key.1):=by rw [cell_of_row _ _ _ _ _ _ hB3];rfl
     have b1':w3.cell? ⟨w.heap.size,1,none⟩=some (.int .i64 h.key.2):=by rw [cell_of_row _ _ _ _ _ _ hB3];rfl
     have b2':w3.cell? ⟨w.heap.size,2,none⟩=some (.slice a' h.f.length c'):=by rw [cell_of_row _ _ _ _ _ _ hB3];rfl
     have b3':w3.cell? ⟨w.heap.size,3,none⟩=some (.int .i64 h.fr):=by rw [cell_of_row _ _ _ _ _ _ hB3];rfl
     have TW:=Hid.mk' (ho_toldWithout H3.out hb n h a' c' FW3.out hX)
     unfold hv at TW
     clear hB3 HBB FW cq
     go_wp2_with fail
     refine TW.out.mono ?_
     rintro e w5 ⟨v5,L,rfl,ho5,hL1,hL2,g5⟩
     obtain ⟨r3,q3,z1,z2,z3⟩:=H3.out
     obtain ⟨xa,xk,rfl,hxa⟩:=owns_shape ho5
     have WOT:=Hid.mk' (woT_of HS.out HL.out hL1 hL2)
     have LM:Hid (∀ x∈L,x∈Xs b):=fun x hx=>((hL2 x).1 hx).1
     have LLE:L.length≤1048576:=by
      have hnd:(L.map fun x=>x.1.key).Pairwise fun x y=>x≠y:=by rw [List.pairwise_map];exact hL1.imp (fun h=>klt_ne h)
      have:=keys_le (L.map fun x=>x.1.key) ((Xs b).map fun x=>x.1.key) hnd (fun k hk=>by
       obtain ⟨x,hx,rfl⟩:=List.mem_map.1 hk
       exact List.mem_map.2 ⟨x,((hL2 x).1 hx).1,rfl⟩)
      simp only [List.length_map] at this
      omega
     have H5:Hid (Ho T r3 w5 Xs cls (fun p y=>(fun p y=>outB (fun x y=>(qs x y).map Mm.ms) b (outH l h) (NB.take q) p y++if p=b∧y=n then [.sub h.key h.f] else []) p y++if p=b∧y=n then ((L.take 0).map fun x=>(Ms.uns x.1.key:Ms (List Wnt) (List Atr))) else []) w5):=⟨r3,q3,z1.gr g5,Fr.refl _ _,fun x y=>by rw [z3];simp⟩
     have F5:=Hid.mk' (z2.trans (Fr.gr g5))
     have O5:=Hid.mk' ho5
     have N5:Hid (∀ k,w3.heap.size≤k→r3 k = .no):=z1.b.top
     have HXA:=Hid.mk' hxa
     clear TW H3 z1 z2 z3 ho5 hL1 hL2 g5 b0' b1' b2' b3' hxa
     go_wp2_with fail
     go_loopw [42] (fun i w6=>∃ j:Nat,j≤L.length∧i = .int .i64 j∧Hid (Ho T r3 w5 Xs cls (fun p y=>(fun p y=>outB (fun x y=>(qs x y).map Mm.ms) b (outH l h) (NB.take q) p y++if p=b∧y=n then [.sub h.key h.f] else []) p y++if p=b∧y=n then ((L.take j).map fun x=>(Ms.uns x.1.key:Ms (List Wnt) (List Atr))) else []) w6)) (fun i _=>L.length - (intOf i).toNat)
     case atStart=>exact ⟨0,Nat.zero_le _,rfl,H5⟩
     case round =>
      obtain ⟨j,hj,rfl,H6⟩:=hrel
      clear H5
      by_cases hjl:j<L.length
      ·obtain ⟨xb,rfl⟩:=HXA.out (by omega)
       have O6:Hid (wr.ownsRow w3.heap.size 121 4 (.slice (some ⟨xb,0,none⟩) L.length xk) L.length (hcells L)):=by
        obtain ⟨r',qs',z1,z2,z3⟩:=H6.out
        exact z2.owns O5.out N5.out
       obtain ⟨d0,d1,d2,d3⟩:=hcells_at L j hjl
       rw [← World.ownsRow.cellAt O6.out _ (by omega)] at d0 d1 d2 d3
       have hmj:=LM.out _ (hat_mem hjl)
       have TK:=Hid.mk' (uns_take hjl)
       generalize hat L j=y at *
       have HMJ:=Hid.mk' hmj
       have H7:=Hid.mk' (H6.out.gr ((Gr.refl wr).alloc (.cells #[.int .i64 y.1.key.1,.int .i64 y.1.key.2,.slice y.2.1 y.1.f.length y.2.2,.int .i64 y.1.fr] 121)))
       have SN6:=Hid.mk' (ho_send H7.out hmem.2 ⟨.uns y.1.key,none,0⟩ (m0:=.slice none 0 0) (m1:=.int .i64 y.1.key.1) (m2:=.int .i64 y.1.key.2) (m3:=.slice none 0 0) rfl (fun r' qs' t _=>(t.h.fi b hb y HMJ.out).2) (by
        have:=List.length_take_le j L
        simp only [List.length_append,LEN.out,List.length_map,and_self,if_true,List.length_take]
        have hf1:([.sub h.key h.f]:List (Ms (List Wnt) (List Atr))).length≤1:=by simp
        omega))
       clear hmj O6 H6
       go_wp2_with fail
       refine SN6.out.mono ?_
       rintro e w7 ⟨rfl,H8⟩
       have H9:Hid (Ho T r3 w5 Xs cls (fun p y=>(fun p y=>outB (fun x y=>(qs x y).map Mm.ms) b (outH l h) (NB.take q) p y++if p=b∧y=n then [.sub h.key h.f] else []) p y++if p=b∧y=n then ((L.take (j+1)).map fun x=>(Ms.uns x.1.key:Ms (List Wnt) (List Atr))) else []) w7):=H8.cong fun p z=>by
        by_cases hpz:p=b∧z=n
        ·simp only [if_pos hpz];rw [TK.out,List.append_assoc,List.append_assoc]
        ·simp only [if_neg hpz,List.append_nil]
       clear SN6 H7 H8 d0 d1 d2 d3
       go_wp2_with fail
       exact ⟨⟨j+1,hjl,by simp,H9⟩,measM_dec _ _ hjl⟩
      ·have hje:j=L.length:=by omega
       subst hje
       have H9:Hid (Ho T r w1 Xs cls (outB (fun x y=>(qs x y).map Mm.ms) b (outH l h) (NB.take (q+1))) wr):=(H6.out.from_ F5.out).cong fun p z=>by
        rw [STEP.out p z]
        by_cases hpz:p=b∧z=n
        ·simp only [if_pos hpz,List.take_length]
         rw [hpz.2,OUT.out,List.append_assoc]
         congr 2
         rw [← WOT.out]
         simp [unss]
        ·simp only [if_neg hpz,List.append_nil]
       clear H6
       go_wp2_with fail
       exact ⟨⟨q+1,hlt,by simp,H9⟩,measM_dec _ _ hlt⟩
    | false =>
     rintro e w3 ⟨rfl,g2⟩
     have H3:Hid (Ho T r w1 Xs cls (fun p y=>outB (fun x y=>(qs x y).map Mm.ms) b (outH l h) (NB.take q) p y++if p=b∧y=n then [] else []) w3):=(HO.out.gr g2).cong fun x y=>by simp
     have OUT2:Hid (outH l h n=[]++unss (woT cov l n h)):=by
      have:=OUT.out
      rw [hit] at this;exact this
     clear OUT HO g2 b0 b1 b2 b3
     have OUT:=OUT2
     clear OUT2
     have FW3:Hid (FiM w3 a' h.f):=by
      obtain ⟨r',qs',z1,z2,z3⟩:=H3.out
      exact (FIW.out r' w3 z2).m
     have hB3:=H3.out.blk B1.out (Or.inl (NO.out _ (Nat.le_refl _)))
     have b0':w3.cell? ⟨w.heap.size,0,none⟩=some (.int .i64 h.key.1):=by rw [cell_of_row _ _ _ _ _ _ hB3];rfl
     have b1':w3.cell? ⟨w.heap.size,1,none⟩=some (.int .i64 h.key.2):=by rw [cell_of_row _ _ _ _ _ _ hB3];rfl
     have b2':w3.cell? ⟨w.heap.size,2,none⟩=some (.slice a' h.f.length c'):=by rw [cell_of_row _ _ _ _ _ _ hB3];rfl
     have b3':w3.cell? ⟨w.heap.size,3,none⟩=some (.int .i64 h.fr):=by rw [cell_of_row _ _ _ _ _ _ hB3];rfl
     have TW:=Hid.mk' (ho_toldWithout H3.out hb n h a' c' FW3.out hX)
     unfold hv at TW
     clear hB3 HBB FW cq
     go_wp2_with fail
     refine TW.out.mono ?_
     rintro e w5 ⟨v5,L,rfl,ho5,hL1,hL2,g5⟩
     obtain ⟨r3,q3,z1,z2,z3⟩:=H3.out
     obtain ⟨xa,xk,rfl,hxa⟩:=owns_shape ho5
     have WOT:=Hid.mk' (woT_of HS.out HL.out hL1 hL2)
     have LM:Hid (∀ x∈L,x∈Xs b):=fun x hx=>((hL2 x).1 hx).1
     have LLE:L.length≤1048576:=by
      have hnd:(L.map fun x=>x.1.key).Pairwise fun x y=>x≠y:=by rw [List.pairwise_map];exact hL1.imp (fun h=>klt_ne h)
      have:=keys_le (L.map fun x=>x.1.key) ((Xs b).map fun x=>x.1.key) hnd (fun k hk=>by
       obtain ⟨x,hx,rfl⟩:=List.mem_map.1 hk
       exact List.mem_map.2 ⟨x,((hL2 x).1 hx).1,rfl⟩)
      simp only [List.length_map] at this
      omega
     have H5:Hid (Ho T r3 w5 Xs cls (fun p y=>(fun p y=>outB (fun x y=>(qs x y).map Mm.ms) b (outH l h) (NB.take q) p y++if p=b∧y=n then [] else []) p y++if p=b∧y=n then ((L.take 0).map fun x=>(Ms.uns x.1.key:Ms (List Wnt) (List Atr))) else []) w5):=⟨r3,q3,z1.gr g5,Fr.refl _ _,fun x y=>by rw [z3];simp⟩
     have F5:=Hid.mk' (z2.trans (Fr.gr g5))
     have O5:=Hid.mk' ho5
     have N5:Hid (∀ k,w3.heap.size≤k→r3 k = .no):=z1.b.top
     have HXA:=Hid.mk' hxa
     clear TW H3 z1 z2 z3 ho5 hL1 hL2 g5 b0' b1' b2' b3' hxa
     go_wp2_with fail
     go_loopw [42] (fun i w6=>∃ j:Nat,j≤L.length∧i = .int .i64 j∧Hid (Ho T r3 w5 Xs cls (fun p y=>(fun p y=>outB (fun x y=>(qs x y).map Mm.ms) b (outH l h) (NB.take q) p y++if p=b∧y=n then [] else []) p y++if p=b∧y=n then ((L.take j).map fun x=>(Ms.uns x.1.key:Ms (List Wnt) (List Atr))) else []) w6)) (fun i _=>L.length - (intOf i).toNat)
     case atStart=>exact ⟨0,Nat.zero_le _,rfl,H5⟩
     case round =>
      obtain ⟨j,hj,rfl,H6⟩:=hrel
      clear H5
      by_cases hjl:j<L.length
      ·obtain ⟨xb,rfl⟩:=HXA.out (by omega)
       have O6:Hid (wr.ownsRow w3.heap.size 121 4 (.slice (some ⟨xb,0,none⟩) L.length xk) L.length (hcells L)):=by
        obtain ⟨r',qs',z1,z2,z3⟩:=H6.out
        exact z2.owns O5.out N5.out
       obtain ⟨d0,d1,d2,d3⟩:=hcells_at L j hjl
       rw [← World.ownsRow.cellAt O6.out _ (by omega)] at d0 d1 d2 d3
       have hmj:=LM.out _ (hat_mem hjl)
       have TK:=Hid.mk' (uns_take hjl)
       generalize hat L j=y at *
       have HMJ:=Hid.mk' hmj
       have H7:=Hid.mk' (H6.out.gr ((Gr.refl wr).alloc (.cells #[.int .i64 y.1.key.1,.int .i64 y.1.key.2,.slice y.2.1 y.1.f.length y.2.2,.int .i64 y.1.fr] 121)))
       have SN6:=Hid.mk' (ho_send H7.out hmem.2 ⟨.uns y.1.key,none,0⟩ (m0:=.slice none 0 0) (m1:=.int .i64 y.1.key.1) (m2:=.int .i64 y.1.key.2) (m3:=.slice none 0 0) rfl (fun r' qs' t _=>(t.h.fi b hb y HMJ.out).2) (by
        have:=List.length_take_le j L
        simp only [List.length_append,LEN.out,List.length_map,and_self,if_true,List.length_take]
        have hf1:(([]:List (Ms (List Wnt) (List Atr)))).length≤1:=by simp
        omega))
       clear hmj O6 H6
       go_wp2_with fail
       refine SN6.out.mono ?_
       rintro e w7 ⟨rfl,H8⟩
       have H9:Hid (Ho T r3 w5 Xs cls (fun p y=>(fun p y=>outB (fun x y=>(qs x y).map Mm.ms) b (outH l h) (NB.take q) p y++if p=b∧y=n then [] else []) p y++if p=b∧y=n then ((L.take (j+1)).map fun x=>(Ms.uns x.1.key:Ms (List Wnt) (List Atr))) else []) w7):=H8.cong fun p z=>by
        by_cases hpz:p=b∧z=n
        ·simp only [if_pos hpz];rw [TK.out,List.append_assoc,List.append_assoc]
        ·simp only [if_neg hpz,List.append_nil]
       clear SN6 H7 H8 d0 d1 d2 d3
       go_wp2_with fail
       exact ⟨⟨j+1,hjl,by simp,H9⟩,measM_dec _ _ hjl⟩
      ·have hje:j=L.length:=by omega
       subst hje
       have H9:Hid (Ho T r w1 Xs cls (outB (fun x y=>(qs x y).map Mm.ms) b (outH l h) (NB.take (q+1))) wr):=(H6.out.from_ F5.out).cong fun p z=>by
        rw [STEP.out p z]
        by_cases hpz:p=b∧z=n
        ·simp only [if_pos hpz,List.take_length]
         rw [hpz.2,OUT.out,List.append_assoc]
         congr 2
         rw [← WOT.out]
         simp [unss]
        ·simp only [if_neg hpz,List.append_nil]
       clear H6
       go_wp2_with fail
       exact ⟨⟨q+1,hlt,by simp,H9⟩,measM_dec _ _ hlt⟩
  ·have hqe:q=NB.length:=by omega
   subst hqe
   rw [List.take_length] at HO
   obtain ⟨r2,q2,z1,z2,z3⟩:=HO.out
   have gd:Gr wr wr.drew:=(Gr.refl wr).drew
   obtain ⟨es,clock,hmp⟩:=(z1.h.at' b hb).2
   have hno:∀ v,(pk h.key,v) ∉ (Xs b).map mv:=by
    intro v hv'
    obtain ⟨x,hx,e⟩:=List.mem_map.1 hv'
    injection e with e1 e2
    exact HNEW.out x hx (pk_inj e1)
   obtain ⟨lk,hlk⟩:=keyK h.key HK.out.1 HK.out.2
   obtain ⟨hup,hM'⟩:=Mp.put_new (v:=.agg (hv h a' c')) Tryz.keyedK Tryz.underlying123 (hmp.kept (w':=wr.drew) rfl) hlk hno
   have hmap:(Xs b).map mv++[(pk h.key,.agg (hv h a' c'))]=(Xs b++[(h,a',c')]).map mv:=by rw [List.map_append];rfl
   rw [hmap] at hM'
   have F1:=(z2.trans (Fr.gr gd))
   have FIN:=Hid.mk' (Tm.turn (z1.gr gd) hb (Xs b++[(h,a',c')]) hM' (fun x hx=>by
    rcases List.mem_append.1 hx with hx | hx
    ·exact (z1.gr gd).h.fi b hb x hx
    ·rw [List.mem_singleton.1 hx];exact ⟨FIW.out r2 wr.drew F1,HK.out⟩))
   have F2:=Hid.mk' ((Fr.gr (r:=r) G1.out).trans F1)
   have Z3:=Hid.mk' z3
   have c0:=z1.b.c0
   have cb:=z1.b.hb b hb
   have hTB:=z1.tlt
   unfold pk hv at hup
   clear hM' hmap hno hmp F1 z1 z2 z3 HO
   go_wp2_with fail
   go_region
   exact bodyPost_end (v:=.tuple #[]) (by simp [results,Tryz.results48,go_sem]) rfl ⟨rfl,r2,q2,FIN.out.1,F2.out.trans FIN.out.2,Z3.out⟩
end Go.Proofs.YtecnfgikbmcgoaaGreat
