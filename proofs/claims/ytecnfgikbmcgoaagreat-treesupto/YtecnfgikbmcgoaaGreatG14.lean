import Derived.Test.YtecnfgikbmcgoaaGreatG13
import Derived.Test.YtecnfgikbmcgoaaGreatG5
import Derived.Deep.LoopGhost
import Derived.Test.YtecnfgikbmcgoaaGreatG2
import Derived.Test.YtecnfgikbmcgoaaGreatG7
import Derived.Test.YtecnfgikbmcgoaaGreatG1
namespace Go.Proofs.YtecnfgikbmcgoaaGreat
open Go.RowKit
open Go.Maps (Keyed)
abbrev Lw:=Nat × Nat × Nat
def lcell (x:Lw):List Value:=[.int .i64 (x.1:Int),.int .i64 (x.2.1:Int),.int .i64 (x.2.2:Int)]
def lcells (l:List Lw):List Value:=l.flatMap lcell
theorem lcells_snoc (l:List Lw) (x:Lw):lcells (l++[x])=lcells l++[.int .i64 (x.1:Int),.int .i64 (x.2.1:Int),.int .i64 (x.2.2:Int)]:=by simp [lcells,lcell]
def lk1 (T:Tc) (s:Ts) (a:Nat):List Lw:=(nbs T.adj T.nb a T.nb).map fun b=>(a,b,(s.q a b).length)
def lkTo (T:Tc) (s:Ts) (k:Nat):List Lw:=(List.range k).flatMap (lk1 T s)
theorem lkTo_succ (T:Tc) (s:Ts) (k:Nat):lkTo T s (k+1)=lkTo T s k++lk1 T s k:=by simp [lkTo,List.range_succ]
theorem lk1_len (T:Tc) (s:Ts) (a:Nat):(lk1 T s a).length≤T.nb:=by
 unfold lk1;rw [List.length_map];exact nbs_le _ _ _ _
theorem lkTo_len (T:Tc) (s:Ts):∀ k,(lkTo T s k).length≤k*T.nb
 | 0=>by simp [lkTo]
 | k+1=>by
  rw [lkTo_succ,List.length_append,Nat.succ_mul]
  have:=lkTo_len T s k
  have:=lk1_len T s k
  omega
theorem Tryz.infoLink:(Tryz.prog.info? 54).map (fun i=>(i.zero,i.size,i.bytes))=some (some (.agg #[.int .i64 0,.int .i64 0,.int .i64 0]),3,24):=by kernel_rfl
theorem Tw.look {T:Tc} {r:Nat→Rl} {w:World} {cls:List Cl} {s:Ts} (h:Tw T r w cls s) {a b:Nat} (hab:T.adj a b=true):∃ va vc,(Instr.lookup 117 (.map (some T.LB)) (.agg #[.int .i64 a,.int .i64 b]) false).run Tryz.prog w = .ok (.slice va (s.q a b).length vc) w:=by
 obtain ⟨Xs,qs,h1,h2⟩:=h
 obtain ⟨m,es,clock,hmp,_,hall,hev⟩:=h1.l.lk
 obtain ⟨v,hv⟩:=hev a b hab
 obtain ⟨a',b',e,_,hQ⟩:=hall _ v hv
 have:=pk_inj e
 simp only [Prod.mk.injEq,Int.natCast_inj] at this
 rw [← this.1, ← this.2] at hQ
 obtain ⟨va,vc,rfl⟩:=hQ.shape
 have hltn:=h1.b.adj a b hab
 have hnb:=h1.b.nb8
 obtain ⟨lk,hlk⟩:=keyE ((a:Int),(b:Int)) ⟨by omega,by omega⟩ ⟨by omega,by omega⟩
 refine ⟨va,vc,?_⟩
 rw [← vw_qlen h2]
 exact Mp.look_yes Tryz.keyedE Tryz.underlying117 hmp hlk hv false
theorem Tw.b {T:Tc} {r:Nat→Rl} {w:World} {cls:List Cl} {s:Ts} (h:Tw T r w cls s):Tb T r w:=by
 obtain ⟨Xs,qs,h1,h2⟩:=h;exact h1.b
theorem Tw.tlt {T:Tc} {r:Nat→Rl} {w:World} {cls:List Cl} {s:Ts} (h:Tw T r w cls s):T.TB<w.heap.size:=by
 obtain ⟨Xs,qs,h1,h2⟩:=h;exact h1.tlt
theorem tw_neighbours {T:Tc} {r:Nat→Rl} {w:World} {cls:List Cl} {s:Ts} (h:Tw T r w cls s) {b:Nat} (hb:b<T.nb) :
  Calls Tryz.prog 43 #[.pointer (some ⟨T.TB,0,none⟩),.int .i64 b] w fun e w'=>∃ v,e = .returned v∧w'.ownsRow w.heap.size 3 1 v (nbs T.adj T.nb b T.nb).length (ints (nbs T.adj T.nb b T.nb))∧Gr w w':=by
 obtain ⟨Xs,qs,h1,h2⟩:=h
 exact ho_neighbours (w0:=w) (base:=fun x y=>(qs x y).map Mm.ms) ⟨r,qs,h1,Fr.refl _ _,fun _ _=>rfl⟩ hb
set_option maxRecDepth 100000 in
set_option maxHeartbeats 4000000 in
theorem Links_any (T:Tc) (r:Nat→Rl) (w:World) (cls:List Cl) (s:Ts) (hT:Tw T r w cls s) (hm:Sm T s) :
  Calls Tryz.prog 19 #[.pointer (some ⟨T.TB,0,none⟩)] w fun e w'=>∃ v,e = .returned v∧w'.ownsRow w.heap.size 54 3 v (lkTo T s T.nb).length (lcells (lkTo T s T.nb))∧Gr w w':=by
 obtain ⟨i0,hi,hz0,hz1,hz2⟩:=info_parts Tryz.infoLink
 have hnb:=hT.b.nb8
 have HT:=Hid.mk' hT
 have HM:=Hid.mk' hm
 have c0:=hT.b.c0
 have hTB:=hT.tlt
 have LL:=Hid.mk' (lkTo_len T s)
 have L1:=Hid.mk' (lk1_len T s)
 clear hT hm
 go_enter Tryz.func19,Tryz.ntmps19
 go_wp2_with fail
 go_loopw [3,12] (fun v i wr=>∃ q:Nat,q≤T.nb∧i = .int .i64 q∧Hid (Gr w wr)∧Hid (wr.ownsRow w.heap.size 54 3 v (lkTo T s q).length (lcells (lkTo T s q)))) (fun _ i _=>T.nb - (intOf i).toNat)
 case atStart=>exact ⟨0,Nat.zero_le _,rfl,Gr.refl _,World.ownsRow_nil _ _ _ _⟩
 case round =>
  obtain ⟨q,hq,rfl,G,O⟩:=hrel
  obtain ⟨va,vm,vk,rfl⟩:=owns_slice O.out
  clear c0
  by_cases hlt:q<T.nb
  ·have NB:=Hid.mk' (tw_neighbours (HT.out.gr G.out) hlt)
   have NMEM:Hid (∀ n,n∈nbs T.adj T.nb q T.nb→n<T.nb∧T.adj q n=true):=fun n hn=>(nbs_mem.1 hn).2
   have NLE:=nbs_le T.adj T.nb q T.nb
   have SUC:=Hid.mk' (lkTo_succ T s q)
   have L1E:Hid (lk1 T s q=(nbs T.adj T.nb q T.nb).map fun b=>(q,b,(s.q q b).length)):=rfl
   have LLq:(lkTo T s q).length≤q*T.nb:=LL.out q
   have hqq:q*T.nb≤64:=Nat.le_trans (Nat.mul_le_mul (Nat.le_of_lt hlt) (Nat.le_refl _)) (Nat.le_trans (Nat.mul_le_mul hnb hnb) (by omega))
   generalize nbs T.adj T.nb q T.nb=nl at *
   go_wp2_with fail
   refine NB.out.mono ?_
   rintro e w1 ⟨v1,rfl,ho,g1⟩
   obtain ⟨xa,xk,rfl,hxa⟩:=owns_shape ho
   have G1:=Hid.mk' (Gr.call G.out g1)
   have O1:=Hid.mk' (ownsGr O.out g1)
   have N1:=Hid.mk' ho
   have HXA:=Hid.mk' hxa
   have SZ:=G.out.size
   clear NB ho g1 G O hxa
   generalize hWR:wr=WR at *
   clear hWR
   go_wp2_with fail
   go_loopw [3,19] (fun v i w6=>∃ j:Nat,j≤nl.length∧i = .int .i64 j∧Hid (Gr w w6)∧Hid (w6.ownsRow WR.heap.size 3 1 (.slice xa nl.length xk) nl.length (ints nl))∧Hid (w6.ownsRow w.heap.size 54 3 v (lkTo T s q++(nl.take j).map fun b=>(q,b,(s.q q b).length)).length (lcells (lkTo T s q++(nl.take j).map fun b=>(q,b,(s.q q b).length))))) (fun _ i _=>nl.length - (intOf i).toNat)
   case atStart=>exact ⟨0,Nat.zero_le _,rfl,G1,N1,by show World.ownsRow _ _ _ _ _ _ _;simpa using O1.out⟩
   case round =>
    obtain ⟨j,hj,rfl,G2,N2,O2⟩:=hrel
    obtain ⟨ya,ym,yk,rfl⟩:=owns_slice O2.out
    clear G1 N1 O1
    by_cases hjl:j<nl.length
    ·obtain ⟨xb,rfl⟩:=HXA.out (by omega)
     have cq:wr.cell? ⟨xb,j,none⟩=some (.int .i64 (nat_ nl j)):=by rw [World.ownsRow.cellAt N2.out j (by omega)];simp [ints,nat_,hjl]
     have hmem:=NMEM.out _ (nat_mem hjl)
     have T3:=HT.out.gr G2.out
     obtain ⟨qa,qc,hlu⟩:=T3.look hmem.2
     have c2:=T3.b.c2
     have TK:Hid ((lkTo T s q++(nl.take (j+1)).map fun b=>(q,b,(s.q q b).length))=(lkTo T s q++(nl.take j).map fun b=>(q,b,(s.q q b).length))++[(q,nat_ nl j,(s.q q (nat_ nl j)).length)]):=by
      show _=_
      rw [nat_take hjl,List.map_append,List.append_assoc];rfl
     have hlen:(lkTo T s q++(nl.take j).map fun b=>(q,b,(s.q q b).length)).length≤100:=by
      rw [List.length_append,List.length_map,List.length_take];omega
     have hqn:=HM.out.q q (nat_ nl j)
     clear T3
     generalize (lkTo T s q++(nl.take j).map fun b=>(q,b,(s.q q b).length))=pre at *
     generalize nat_ nl j=n at *
     generalize (s.q q n).length=ql at *
     have hne:¬ (none:Option Addr)=none→False:=fun h=>h rfl
     go_wp2_with (at_builtin;refine wpList_append_own _ rfl _ _ 51 rfl w.heap.size 54 i0 (.agg #[.int .i64 0,.int .i64 0,.int .i64 0]) 3 24 Tryz.underlying51 hi hz0 hz1 hz2 rfl (by decide) _ _ _ rfl (O2.out.alloc _) ⟨wr.heap.size,0,none⟩ 1 1 [.int .i64 q,.int .i64 n,.int .i64 ql] rfl rfl (World.news_of_block (heap_alloc_new _ _)) ?k2 ?k3 ?k4 ?k5 ?_)
     case k2=>exact ⟨rfl,rfl,rfl⟩
     case k3=>unfold maxLen;omega
     case k4=>omega
     case k5=>have:=G2.out.size;simp;omega
     intro v5 w5 ho5 hg5 _
     have G5:Hid (Gr w w5):=Below.grown (G2.out.alloc _) hg5 (Nat.le_trans G2.out.size (by simp)) (own_low O2.out)
     have N5:Hid (w5.ownsRow WR.heap.size 3 1 (.slice (some ⟨xb,0,none⟩) nl.length xk) nl.length (ints nl)):=owns_kept (N2.out.alloc _) hg5 (own_apart O2.out N2.out (by decide))
     have O5:Hid (w5.ownsRow w.heap.size 54 3 v5 (lkTo T s q++(nl.take (j+1)).map fun b=>(q,b,(s.q q b).length)).length (lcells (lkTo T s q++(nl.take (j+1)).map fun b=>(q,b,(s.q q b).length)))):=by
      show World.ownsRow _ _ _ _ _ _ _
      rw [TK.out,List.length_append,lcells_snoc];exact ho5
     obtain ⟨za,zm,zk,rfl⟩:=owns_slice ho5
     clear ho5 hg5 O2 N2 G2 hlu cq
     go_wp2_with fail
     exact ⟨⟨j+1,hjl,by simp,G5,N5,O5⟩,measM_dec _ _ hjl⟩
    ·have hje:j=nl.length:=by omega
     subst hje
     have O5:Hid (wr.ownsRow w.heap.size 54 3 (.slice ya ym yk) (lkTo T s (q+1)).length (lcells (lkTo T s (q+1)))):=by
      have:=O2.out
      rw [List.take_length, ← L1E.out, ← SUC.out] at this
      exact this
     clear O2 N2
     go_wp2_with fail
     exact ⟨⟨q+1,hlt,by simp,G2,O5⟩,measM_dec _ _ hlt⟩
  ·have hqn:q=T.nb:=by omega
   subst hqn
   go_wp2_with fail
   go_ret
   exact ⟨_,rfl,O.out,G.out⟩
def lat (l:List Lw) (i:Nat):Lw:=l.getD i (0,0,0)
theorem lcells_at:∀ (L:List Lw) (j:Nat),j<L.length→(lcells L)[j*3]? = some (.int .i64 ((lat L j).1:Int))∧(lcells L)[j*3+1]? = some (.int .i64 ((lat L j).2.1:Int))∧(lcells L)[j*3+1+1]? = some (.int .i64 ((lat L j).2.2:Int))
 | [],j,h=>by simp at h
 | x::l,0,_=>by simp [lcells,lcell,lat]
 | x::l,j+1,h=>by
  have ih:=lcells_at l j (by simpa using h)
  have e:∀ k,(lcells (x::l))[(j+1)*3+k]? = (lcells l)[j*3+k]? := fun k=>by
   have:(j+1)*3+k=(j*3+k)+3:=by omega
   rw [this];simp [lcells,lcell,List.getElem?_cons_succ]
  have hh:lat (x::l) (j+1)=lat l j:=by simp [lat]
  rw [hh]
  exact ⟨(e 0).trans ih.1,(e 1).trans ih.2.1,(e 2).trans ih.2.2⟩
def fst_ (l:List Lw):Option Lw:=l.find? fun x=>decide (0<x.2.2)
theorem fst_hit {l:List Lw} {j:Nat} (hj:j<l.length) (h0:∀ x∈l.take j,x.2.2=0) (h1:0<(lat l j).2.2):fst_ l=some (lat l j):=by
 have e:l=l.take j++lat l j::l.drop (j+1):=by
  have:lat l j=l[j]:=by simp [lat,hj]
  rw [this, ← List.drop_eq_getElem_cons hj,List.take_append_drop]
 unfold fst_
 conv=>lhs;rw [e]
 rw [List.find?_append]
 have:(l.take j).find? (fun x=>decide (0<x.2.2))=none:=by
  rw [List.find?_eq_none]
  intro x hx
  rw [h0 x hx];simp
 rw [this]
 simp [h1]
theorem fst_none {l:List Lw} (h0:∀ x∈l,x.2.2=0):fst_ l=none:=by
 unfold fst_
 rw [List.find?_eq_none]
 intro x hx
 rw [h0 x hx];simp
def fstV:Option Lw→Value
 | some x=>.tuple #[.agg #[.int .i64 (x.1:Int),.int .i64 (x.2.1:Int),.int .i64 (x.2.2:Int)],.bool true]
 | none=>.tuple #[.agg #[.int .i64 0,.int .i64 0,.int .i64 0],.bool false]
theorem lkTo_q {T:Tc} {s:Ts} {k:Nat} {x:Lw} (h:x∈lkTo T s k):x.1<k∧T.adj x.1 x.2.1=true∧x.2.2=(s.q x.1 x.2.1).length:=by
 simp only [lkTo,List.mem_flatMap,List.mem_range,lk1,List.mem_map] at h
 obtain ⟨a,ha,b,hb,rfl⟩:=h
 exact ⟨ha,(nbs_mem.1 hb).2.2,rfl⟩
set_option maxRecDepth 100000 in
set_option maxHeartbeats 4000000 in
theorem first_any (T:Tc) (r:Nat→Rl) (w:World) (cls:List Cl) (s:Ts) (hT:Tw T r w cls s) (hm:Sm T s) :
  Calls Tryz.prog 38 #[.pointer (some ⟨T.TB,0,none⟩)] w fun e w'=>e = .returned (fstV (fst_ (lkTo T s T.nb)))∧Gr w w':=by
 have ga:Gr w (w.alloc (.cells #[.int .i64 0,.int .i64 0,.int .i64 0] 54)):=(Gr.refl w).alloc _
 have HB:=heap_alloc_new w (.cells #[.int .i64 0,.int .i64 0,.int .i64 0] 54)
 have LK:=Hid.mk' (Links_any T r _ cls s (hT.gr ga) hm)
 have hnb:=hT.b.nb8
 have LL:(lkTo T s T.nb).length≤64:=Nat.le_trans (lkTo_len T s T.nb) (Nat.le_trans (Nat.mul_le_mul hnb hnb) (by omega))
 have LQ:Hid (∀ x∈lkTo T s T.nb,x.2.2<549755813888):=fun x hx=>by rw [(lkTo_q hx).2.2];exact hm.q _ _
 have GA:=Hid.mk' ga
 have HHB:=Hid.mk' HB
 clear hT hm ga HB
 generalize lkTo T s T.nb=L at *
 go_enter Tryz.func38,Tryz.ntmps38
 go_wp2_with fail
 refine LK.out.mono ?_
 rintro e w1 ⟨v1,rfl,ho,g1⟩
 obtain ⟨xa,xk,rfl,hxa⟩:=owns_shape ho
 have G1:=Hid.mk' (Gr.call GA.out g1)
 have B1:=Hid.mk' (blk_gr g1 HHB.out)
 have N1:=Hid.mk' ho
 have HXA:=Hid.mk' hxa
 clear LK ho g1 hxa GA HHB
 go_wp2_with fail
 go_loopw [9] (fun i wr=>∃ j:Nat,j≤L.length∧i = .int .i64 j∧Hid (Gr w1 wr)∧Hid (∀ x∈L.take j,x.2.2=0)) (fun i _=>L.length - (intOf i).toNat)
 case atStart=>exact ⟨0,Nat.zero_le _,rfl,Gr.refl _,fun x hx=>by simp at hx⟩
 case round =>
  obtain ⟨j,hj,rfl,G2,Z⟩:=hrel
  have hB:=blk_gr G2.out B1.out
  have hws:=blk_lt hB
  have G3:=Hid.mk' (Gr.call G1.out G2.out)
  have v0:wr.cell? ⟨w.heap.size,0,none⟩=some (.int .i64 0):=by rw [cell_of_row _ _ _ _ _ _ hB];rfl
  have v1:wr.cell? ⟨w.heap.size,1,none⟩=some (.int .i64 0):=by rw [cell_of_row _ _ _ _ _ _ hB];rfl
  have v2:wr.cell? ⟨w.heap.size,2,none⟩=some (.int .i64 0):=by rw [cell_of_row _ _ _ _ _ _ hB];rfl
  have f0:∀ j,wr.frozen? ⟨w.heap.size,j,none⟩=false:=fun j=>frozen_of_row _ _ _ _ _ hB
  have HBB:=Hid.mk' hB
  clear hB
  by_cases hjl:j<L.length
  ·obtain ⟨xb,rfl⟩:=HXA.out (by omega)
   have N2:=ownsGr N1.out G2.out
   obtain ⟨d0,d1,d2⟩:=lcells_at L j hjl
   rw [← World.ownsRow.cellAt N2 _ (by omega)] at d0 d1 d2
   have hmx:lat L j∈L:=by unfold lat;exact getD_mem hjl _
   have hlq:=LQ.out _ hmx
   have G4:=Hid.mk' (G2.out.alloc (.cells #[.int .i64 ((lat L j).1:Int),.int .i64 ((lat L j).2.1:Int),.int .i64 ((lat L j).2.2:Int)] 54))
   have TK:Hid (L.take (j+1)=L.take j++[lat L j]):=by
    show _=_
    rw [List.take_succ_eq_append_getElem hjl];simp [lat,hjl]
   have FH:=Hid.mk' (fst_hit hjl Z.out)
   clear N2 hmx
   generalize lat L j=y at *
   by_cases hy:0<y.2.2
   ·have hy':(0:Int)<(y.2.2:Int):=by omega
    have FV:=Hid.mk' (FH.out hy)
    have G5:=Hid.mk' (G3.out.alloc (.cells #[.int .i64 (y.1:Int),.int .i64 (y.2.1:Int),.int .i64 (y.2.2:Int)] 54))
    clear Z TK
    go_wp2_with fail
    refine bodyPost_ret (v:=fstV (some y)) (by simp [results,Tryz.results38,go_sem,fstV,v0,v1,v2,hws]) rfl ⟨by rw [FV.out],?_⟩
    exact Gr.alloc (a:=w) (Below.setCell (Below.setCell (Below.setCell G3.out (p:=⟨w.heap.size,0,none⟩) (Nat.le_refl _) _) (p:=⟨w.heap.size,1,none⟩) (Nat.le_refl _) _) (p:=⟨w.heap.size,2,none⟩) (Nat.le_refl _) _) _
   ·have hy0:y.2.2=0:=by omega
    have Z2:Hid (∀ x∈L.take (j+1),x.2.2=0):=fun x hx=>by
     rw [TK.out] at hx
     rcases List.mem_append.1 hx with hx | hx
     ·exact Z.out x hx
     ·rw [List.mem_singleton.1 hx];exact hy0
    clear Z TK FH v0 v1 v2 f0
    rw [hy0] at d2 G4
    go_wp2_with fail
    exact ⟨⟨j+1,hjl,by simp,G4,Z2⟩,measM_dec _ _ hjl⟩
  ·have hje:j=L.length:=by omega
   subst hje
   rw [List.take_length] at Z
   have FV:=Hid.mk' (fst_none Z.out)
   go_wp2_with fail
   refine bodyPost_ret (v:=fstV none) (by simp [results,Tryz.results38,go_sem,fstV,v0,v1,v2]) rfl ⟨by rw [FV.out],?_⟩
   exact Below.setCell (Below.setCell (Below.setCell G3.out (p:=⟨w.heap.size,0,none⟩) (Nat.le_refl _) _) (p:=⟨w.heap.size,1,none⟩) (Nat.le_refl _) _) (p:=⟨w.heap.size,2,none⟩) (Nat.le_refl _) _
end Go.Proofs.YtecnfgikbmcgoaaGreat
namespace Go.Proofs.YtecnfgikbmcgoaaGreat
open Go.RowKit
theorem wrap_bd (n:Int):minI≤wrap64 n∧wrap64 n≤maxI:=by unfold wrap64 minI maxI;omega
theorem app_size (s t:ByteArray):(s++t).size=s.size+t.size:=by simp
theorem piece_ok {n:Int} {s:ByteArray} (hlo:minI≤n) (hhi:n≤maxI) (hs:s.size≤32):∀ v∈piece n s,valOk v.1 v.2.1 v.2.2=true∧minI≤v.2.1∧v.2.1≤maxI:=by
 have hz:minI≤0∧0≤maxI:=by unfold minI maxI;omega
 have num:∀ x,minI≤x→x≤maxI→valOk 1 x noText=true∧minI≤x∧x≤maxI:=fun x h1 h2=>⟨by simp [valOk,noText_list],h1,h2⟩
 have txt:∀ t:ByteArray,t.size≤32→valOk 2 0 t=true∧minI≤0∧0≤maxI:=fun t ht=>⟨by simp [valOk];omega,hz.1,hz.2⟩
 have a1:aT.size=1:=rfl
 have z1:zT.size=1:=rfl
 have o1:oT.size=1:=rfl
 have f1:fT.size=1:=rfl
 intro v hv
 unfold piece at hv
 rcases List.mem_append.1 hv with hv | hv
 ·simp only [List.mem_cons,List.not_mem_nil,or_false] at hv
  rcases hv with rfl | rfl | rfl | rfl
  ·exact num n hlo hhi
  ·exact num _ (wrap_bd _).1 (wrap_bd _).2
  ·exact num _ (wrap_bd _).1 (wrap_bd _).2
  ·exact txt s hs
 ·split at hv
  ·simp only [List.mem_cons,List.not_mem_nil,or_false] at hv
   rcases hv with rfl | rfl | rfl | rfl | rfl | rfl | rfl | rfl <;> exact txt _ (by rw [app_size];omega)
  ·simp at hv
theorem tried_ok {n:Int} {s:ByteArray} {n':Int} {s':ByteArray} (h1:minI≤n) (h2:n≤maxI) (h3:minI≤n') (h4:n'≤maxI) (hs:s.size≤32) (hs':s'.size≤32) :
  ∀ v∈triedL n s n' s',valOk v.1 v.2.1 v.2.2=true∧minI≤v.2.1∧v.2.1≤maxI:=by
 have hz:minI≤0∧0≤maxI∧minI≤1∧1≤maxI∧minI≤maxI:=by unfold minI maxI;omega
 intro v hv
 unfold triedL at hv
 rcases List.mem_append.1 hv with hv | hv
 ·rcases List.mem_append.1 hv with hv | hv
  ·rcases List.mem_append.1 hv with hv | hv
   ·simp only [List.mem_cons,List.not_mem_nil,or_false] at hv
    rcases hv with rfl | rfl | rfl | rfl <;> refine ⟨by simp [valOk,noText_list],?_,?_⟩ <;> simp only <;> omega
   ·exact piece_ok h1 h2 (by decide) v hv
  ·exact piece_ok h3 h4 hs v hv
 ·exact piece_ok hz.1 hz.2.1 hs' v hv
theorem way_size {y k n:Int} {s:ByteArray} (h:wayOk y k n s=true):s.size≤32:=by
 by_cases h1:y=1
 ·subst h1
  simp [wayOk_any] at h
  have:=empty_data h.2
  have e:s.size=s.data.toList.length:=by simp
  rw [this,List.length_nil] at e
  omega
 ·exact val_size (way_val h h1)
theorem within_iff {y k n:Int} {s:ByteArray} {y' k' n':Int} {s':ByteArray} (hw:wayOk y k n s=true) (hw':wayOk y' k' n' s'=true) (hlo:minI≤n) (hhi:n≤maxI) (hlo':minI≤n') (hhi':n'≤maxI) :
  withinB y k n s y' k' n' s'=true↔implP y k n s y' k' n' s':=by
 constructor
 ·exact within_sound hw hw' hlo hhi
 ·intro h
  cases hb:withinB y k n s y' k' n' s'
  ·obtain ⟨v,hm,h1,h2⟩:=within_wit hw hw' hlo hhi hb
   obtain ⟨o1,o2,o3⟩:=tried_ok hlo hhi hlo' hhi' (way_size hw) (way_size hw') v hm
   rw [h _ _ _ o1 o2 o3 h1] at h2;cases h2
  ·rfl
def triedB (y k n:Int) (s:ByteArray) (y' k' n':Int) (s':ByteArray):Bool:=(triedL n s n' s').all fun v => !(lets y k n s v.1 v.2.1 v.2.2 && !lets y' k' n' s' v.1 v.2.1 v.2.2)
theorem tried_eq {y k n:Int} {s:ByteArray} {y' k' n':Int} {s':ByteArray} (hw:wayOk y k n s=true) (hw':wayOk y' k' n' s'=true) (hlo:minI≤n) (hhi:n≤maxI) (hlo':minI≤n') (hhi':n'≤maxI) :
  triedB y k n s y' k' n' s'=withinB y k n s y' k' n' s':=by
 cases hb:withinB y k n s y' k' n' s'
 ·obtain ⟨v,hm,h1,h2⟩:=within_wit hw hw' hlo hhi hb
  unfold triedB
  rw [List.all_eq_false]
  exact ⟨v,hm,by simp [h1,h2]⟩
 ·have hs:=within_sound hw hw' hlo hhi hb
  unfold triedB
  rw [List.all_eq_true]
  intro v hm
  obtain ⟨o1,o2,o3⟩:=tried_ok hlo hhi hlo' hhi' (way_size hw) (way_size hw') v hm
  cases hl:lets y k n s v.1 v.2.1 v.2.2
  ·simp
  ·simp [hs _ _ _ o1 o2 o3 hl]
theorem way_of {x:Wnt} (h:wOk x=true):wayOk x.y x.k x.n x.s=true:=by simp [wOk,wantOk] at h;exact h.2
theorem imp_iff {x x':Wnt} (hx:x.Wf) (hx':x'.Wf):impW x x'=true↔wOk x=true∧wOk x'=true∧x.a.toList=x'.a.toList∧implP x.y x.k x.n x.s x'.y x'.k x'.n x'.s:=by
 unfold impW impB
 simp only [Bool.and_eq_true,beq_iff_eq]
 constructor
 ·rintro ⟨⟨⟨h1,h2⟩,h3⟩,h4⟩
  exact ⟨h1,h2,h3,(within_iff (way_of h1) (way_of h2) hx.n1 hx.n2 hx'.n1 hx'.n2).1 h4⟩
 ·rintro ⟨h1,h2,h3,h4⟩
  exact ⟨⟨⟨h1,h2⟩,h3⟩,(within_iff (way_of h1) (way_of h2) hx.n1 hx.n2 hx'.n1 hx'.n2).2 h4⟩
theorem imp_refl {x:Wnt} (hx:x.Wf) (h:wOk x=true):impW x x=true:=(imp_iff hx hx).2 ⟨h,h,rfl,fun _ _ _ _ _ _ h=>h⟩
theorem imp_trans {x y z:Wnt} (hx:x.Wf) (hy:y.Wf) (hz:z.Wf) (h1:impW x y=true) (h2:impW y z=true):impW x z=true:=by
 obtain ⟨a1,_,a3,a4⟩:=(imp_iff hx hy).1 h1
 obtain ⟨_,b2,b3,b4⟩:=(imp_iff hy hz).1 h2
 exact (imp_iff hx hz).2 ⟨a1,b2,a3.trans b3,fun k n s o1 o2 o3 hl=>b4 k n s o1 o2 o3 (a4 k n s o1 o2 o3 hl)⟩
theorem cov_iff {f g:List Wnt}:cov f g=true↔filterOk f=true∧filterOk g=true ∧ ∀ x∈f,∃ v∈g,impW v x=true:=by
 unfold cov
 simp only [Bool.and_eq_true,List.all_eq_true,List.any_eq_true]
 constructor
 ·rintro ⟨⟨h1,h2⟩,h3⟩;exact ⟨h1,h2,h3⟩
 ·rintro ⟨h1,h2,h3⟩;exact ⟨⟨h1,h2⟩,h3⟩
theorem cov_sub {f g:List Wnt} (hf:filterOk f=true) (hg:filterOk g=true) (hwf:∀ x∈f,Wnt.Wf x) (h:∀ x∈f,x∈g):cov f g=true :=
 cov_iff.2 ⟨hf,hg,fun x hx=>⟨x,h x hx,imp_refl (hwf x hx) ((fi_ok_of hf).1 x hx)⟩⟩
theorem cov_trans {f g h:List Wnt} (wf:∀ x∈f,Wnt.Wf x) (wg:∀ x∈g,Wnt.Wf x) (wh:∀ x∈h,Wnt.Wf x) (h1:cov f g=true) (h2:cov g h=true):cov f h=true:=by
 obtain ⟨a1,_,a3⟩:=cov_iff.1 h1
 obtain ⟨_,b2,b3⟩:=cov_iff.1 h2
 refine cov_iff.2 ⟨a1,b2,fun x hx=>?_⟩
 obtain ⟨v,hv,e1⟩:=a3 x hx
 obtain ⟨u,hu,e2⟩:=b3 v hv
 exact ⟨u,hu,imp_trans (wh u hu) (wg v hv) (wf x hx) e2 e1⟩
set_option maxRecDepth 100000 in
set_option maxHeartbeats 1000000 in
theorem CloneS (wz:World) (s:ByteArray) (w:World) (hs:s.size≤255) (h:Gr wz w):Calls Tryz.prog 85 #[.string s] w fun e w'=>e = .returned (.string s)∧Gr wz w':=by
 go_enter Tryz.func85,Tryz.ntmps85
 go_wp2_with fail
 refine (Tryz.stringslite_Clone s w (by omega)).mono ?_
 rintro e w1 ⟨rfl,g1⟩
 go_wp2_with fail
 go_ret
 exact ⟨rfl,Gr.call h g1⟩
set_option maxRecDepth 100000 in
set_option maxHeartbeats 1000000 in
theorem copyOfValue_any (k n:Int) (s:ByteArray) (w:World) (hs:s.size≤255):Calls Tryz.prog 86 #[.agg #[.int .i64 k,.int .i64 n,.string s]] w fun e w'=>e = .returned (.agg #[.int .i64 k,.int .i64 n,.string s])∧Gr w w':=by
 go_enter Tryz.func86,Tryz.ntmps86
 have G1:Gr w ((w.alloc (.cells #[.int .i64 k,.int .i64 n,.string s] 72)).alloc (.cells #[.int .i64 0,.int .i64 0,.string ⟨#[]⟩] 72)):=((Gr.refl w).alloc _).alloc _
 have HA:=blk_gr ((Gr.refl _).alloc (.cells #[.int .i64 0,.int .i64 0,.string ⟨#[]⟩] 72)) (heap_alloc_new w (.cells #[.int .i64 k,.int .i64 n,.string s] 72))
 have HB:=heap_alloc_new (w.alloc (.cells #[.int .i64 k,.int .i64 n,.string s] 72)) (.cells #[.int .i64 0,.int .i64 0,.string ⟨#[]⟩] 72)
 rw [show (w.alloc (.cells #[.int .i64 k,.int .i64 n,.string s] 72)).heap.size=w.heap.size+1 by simp] at HB
 have HG:=Hid.mk' G1
 have HHA:=Hid.mk' HA
 have HHB:=Hid.mk' HB
 clear G1 HA HB
 go_wp2_with fail
 refine (CloneS _ s _ hs (Gr.refl _)).mono ?_
 rintro e w1 ⟨rfl,g1⟩
 have hA:=blk_gr g1 HHA.out
 have hB:=blk_gr g1 HHB.out
 have G1:=Hid.mk' (Gr.call HG.out g1)
 clear HG HHA HHB g1
 have a0:w1.cell? ⟨w.heap.size,0,none⟩=some (.int .i64 k):=by rw [cell_of_row _ _ _ _ _ _ hA];rfl
 have a1:w1.cell? ⟨w.heap.size,1,none⟩=some (.int .i64 n):=by rw [cell_of_row _ _ _ _ _ _ hA];rfl
 have a2:w1.cell? ⟨w.heap.size,2,none⟩=some (.string s):=by rw [cell_of_row _ _ _ _ _ _ hA];rfl
 have b0:w1.cell? ⟨w.heap.size+1,0,none⟩=some (.int .i64 0):=by rw [cell_of_row _ _ _ _ _ _ hB];rfl
 have b1:w1.cell? ⟨w.heap.size+1,1,none⟩=some (.int .i64 0):=by rw [cell_of_row _ _ _ _ _ _ hB];rfl
 have b2:w1.cell? ⟨w.heap.size+1,2,none⟩=some (.string ⟨#[]⟩):=by rw [cell_of_row _ _ _ _ _ _ hB];rfl
 have fa:∀ j,w1.frozen? ⟨w.heap.size,j,none⟩=false:=fun j=>frozen_of_row _ _ _ _ _ hA
 have fb:∀ j,w1.frozen? ⟨w.heap.size+1,j,none⟩=false:=fun j=>frozen_of_row _ _ _ _ _ hB
 clear hA hB
 go_wp2_with fail
 refine bodyPost_ret (v:=.agg #[.int .i64 k,.int .i64 n,.string s]) (by simp [results,Tryz.results86,go_sem,b0,b1,b2]) rfl ⟨rfl,?_⟩
 exact Below.setCell (Below.setCell (Below.setCell (Below.setCell G1.out (p:=⟨w.heap.size,2,none⟩) (Nat.le_refl _) _) (p:=⟨w.heap.size+1,0,none⟩) (Nat.le_succ _) _) (p:=⟨w.heap.size+1,1,none⟩) (Nat.le_succ _) _) (p:=⟨w.heap.size+1,2,none⟩) (Nat.le_succ _) _
theorem Tryz.infoWantK:(Tryz.prog.info? 76).map (fun i=>(i.zero,i.size,i.bytes))=some (some (.agg #[.string ⟨#[]⟩,.int .i64 0,.int .i64 0,.int .i64 0,.string ⟨#[]⟩]),5,56):=by kernel_rfl
def Rcf (B g n q:Nat) (y:Wnt) (j:Nat) (x:Value) (_w:World):Prop :=
 match j with
 | 0=>x = .slice (some ⟨g,0,none⟩) n n
 | 1=>x = .int .i64 q
 | 2=>x = .pointer (some ⟨B,0,none⟩)
 | 3=>x = .string y.a
 | 4=>x = .string y.a
 | 5=>x = .pointer (some ⟨B,1,none⟩)
 | 6=>x = .int .i64 y.y
 | 7=>x = .pointer (some ⟨B,2,none⟩)
 | 8=>x = .agg #[.int .i64 y.k,.int .i64 y.n,.string y.s]
 | 9=>x = .agg #[.int .i64 y.k,.int .i64 y.n,.string y.s]
 | 10=>x = .agg #[.string y.a,.int .i64 y.y,.int .i64 y.k,.int .i64 y.n,.string y.s]
 | 11=>x = .pointer (some ⟨g,q*5,none⟩)
 | _=>True
theorem Rcf.st {B g n q:Nat} {y:Wnt} (j:Nat) (x:Value) (wa wb:World) (h:Rcf B g n q y j x wa):Rcf B g n q y j x wb:=by
 unfold Rcf at h ⊢;split <;> first | exact h | trivial
structure Efr (pre post:List Value) (m:Nat) (a:Act):Prop where
 df:a.defers=[]
 ts:∃ z:List Value,z.length=m∧a.tmps=(pre++z++post).toArray
theorem Efr.put {pre post:List Value} {m:Nat} (a:Act) (i:Nat) (x:Value) (hi:i<m) (h:Efr pre post m a):Efr pre post m (a.put (some (pre.length+i)) x):=by
 obtain ⟨z,hz,ht⟩:=h.ts
 refine ⟨h.df,z.set i x,by simpa using hz,?_⟩
 simp only [Act.put,ht,List.setIfInBounds_toArray]
 rw [List.append_assoc,List.set_append_right _ _ (by omega),show pre.length+i - pre.length=i by omega,List.set_append_left _ _ (by omega),List.append_assoc]
theorem Efr.sz {pre post:List Value} {m:Nat} {a:Act} (h:Efr pre post m a):a.tmps.size=pre.length+m+post.length:=by
 obtain ⟨z,hz,ht⟩:=h.ts
 rw [ht];simp;omega
theorem Efr.at_ {pre post:List Value} {m:Nat} {a:Act} (h:Efr pre post m a) {t:Nat} (ht:t<pre.length):a.eval (.tmp t)=pre[t]?.getD undef:=by
 obtain ⟨z,hz,e⟩:=h.ts
 rw [evn,e]
 simp [List.getElem?_append,ht]
set_option maxRecDepth 100000 in
set_option maxHeartbeats 4000000 in
theorem copyOfFilter_any (f:List Wnt) (ad:Option Addr) (cap:Nat) (w:World) (h:FiM w ad f) :
  Calls Tryz.prog 49 #[.slice ad f.length cap] w fun e w'=>∃ v,e = .returned v∧w'.ownsRow w.heap.size 76 5 v f.length (wcells f)∧Gr w w':=by
 obtain ⟨i0,hi,hz0,hz1,hz2⟩:=info_parts Tryz.infoWantK
 have HF:=Hid.mk' h
 have hlen:=h.len
 obtain ⟨b,off,rfl,hbw,hat⟩:=h.at'
 have HAT:=Hid.mk' hat
 clear h hat
 go_enter Tryz.func49,Tryz.ntmps49
 go_wp2_with (at_make;refine wpList_make_full _ rfl _ _ 48 rfl w.heap.size 76 i0 _ 5 Tryz.underlying48 hi hz0 hz1 _ _ _ _ f.length rfl rfl (by omega) (by omega) ?b2 ?b3 (Nat.le_refl _) ?_)
 case b2=>rw [hz2];omega
 case b3=>unfold maxLen;omega
 intro w1 hown1 hgrow1
 have G1:Hid (Gr w w1):=Below.grown (Gr.refl w) hgrow1 (Nat.le_refl _) (fun b hb=>by cases hb)
 have O1:=Hid.mk' hown1
 clear hown1 hgrow1
 go_wp2_with fail
 go_loopw [11] (fun i wr=>∃ (q:Nat) (xs:List Value),q≤f.length∧i = .int .i64 q∧Hid (Gr w wr)∧Hid (xs.take (q*5)=wcells (f.take q))∧Hid (wr.ownsRow w.heap.size 76 5 (.slice (some ⟨w.heap.size,0,none⟩) f.length f.length) f.length xs)) (fun i _=>f.length - (intOf i).toNat)
 case atStart=>exact ⟨0,_,Nat.zero_le _,rfl,G1,rfl,O1⟩
 case round =>
  obtain ⟨q,xs,hq,rfl,G,HX,O⟩:=hrel
  clear G1 O1
  by_cases hlt:q<f.length
  ·have hxl:xs.length=f.length*5:=O.out.1
   obtain ⟨d1,d2,d3,d4,d5⟩:=(HAT.out.gr G.out hbw) q hlt
   have hbw2:b<wr.heap.size:=G.out.lt hbw
   have wfq:=HF.out.wf _ (wat_mem hlt)
   have okq:=(fi_ok_of HF.out.ok).1 _ (wat_mem hlt)
   have hsa:(wat f q).a.size≤255:=by
    simp only [wOk,wantOk,nameOk,Bool.and_eq_true,decide_eq_true_eq] at okq
    omega
   have hss:(wat f q).s.size≤255:=by
    have:=way_size (way_of okq)
    omega
   have HSA:=Hid.mk' hsa
   have HSS:=Hid.mk' hss
   have WT:=Hid.mk' (wcells_take f q hlt)
   clear hsa hss okq wfq
   generalize wat f q=y at *
   have HNEW:=heap_alloc_new wr (.cells #[.string y.a,.int .i64 y.y,.int .i64 y.k,.int .i64 y.n,.string y.s] 76)
   have gal:Gr wr (wr.alloc (.cells #[.string y.a,.int .i64 y.y,.int .i64 y.k,.int .i64 y.n,.string y.s] 76)):=(Gr.refl wr).alloc _
   have HHN:=Hid.mk' HNEW
   have GAL:=Hid.mk' gal
   clear HNEW gal
   go_wp2_with fail
   have hws:w.heap.size<wr.heap.size:=by
    obtain ⟨r0,rc0⟩:=row_some O.out 0 (by omega)
    exact World.block_lt_of_cell? _ _ rc0
   refine region_S (c:=16) rfl 12 (by rfl) (Rcf wr.heap.size w.heap.size f.length q y)
    (Efr [.slice (some ⟨b,off,none⟩) f.length cap,undef,.slice none 0 0,.slice (some ⟨w.heap.size,0,none⟩) f.length f.length,.int .i64 q,.pointer (some ⟨wr.heap.size,0,none⟩),.slice (some ⟨b,off,none⟩) f.length cap,.int .i64 f.length,.slice (some ⟨w.heap.size,0,none⟩) f.length f.length,.slice (some ⟨b,off,none⟩) f.length cap,.int .i64 f.length,.int .i64 q,.bool true,.int .i64 q,.pointer (some ⟨b,off+q*5,none⟩),.agg #[.string y.a,.int .i64 y.y,.int .i64 y.k,.int .i64 y.n,.string y.s]] [u28,undef] 12)
    (fun w'=>Gr (wr.alloc (.cells #[.string y.a,.int .i64 y.y,.int .i64 y.k,.int .i64 y.n,.string y.s] 76)) w') (fun _ wa wb=>Gr wa wb) (fun a i x hi h=>Efr.put a i x hi h) (fun a h=>by have:=h.sz;simp at this;omega) (fun i wa wb h g=>Gr.call h g) (fun i j x wa wb _ h g=>Rcf.st j x wa wb h) ?front ?last ?e0 (Gr.refl _).drew
   case e0=>exact ⟨rfl,[u16,u17,u18,u19,u20,u21,u22,u23,u24,u25,u26,u27],rfl,rfl⟩
   case front =>
    intro i o a' w2 ho hi2 hE hW hd K hK
    have hA:=blk_gr hW HHN.out
    have c0:w2.cell? ⟨wr.heap.size,0,none⟩=some (.string y.a):=by rw [cell_of_row _ _ _ _ _ _ hA];rfl
    have c1:w2.cell? ⟨wr.heap.size,1,none⟩=some (.int .i64 y.y):=by rw [cell_of_row _ _ _ _ _ _ hA];rfl
    have c2:w2.cell? ⟨wr.heap.size,2,none⟩=some (.int .i64 y.k):=by rw [cell_of_row _ _ _ _ _ _ hA];rfl
    have c3:w2.cell? ⟨wr.heap.size,3,none⟩=some (.int .i64 y.n):=by rw [cell_of_row _ _ _ _ _ _ hA];rfl
    have c4:w2.cell? ⟨wr.heap.size,4,none⟩=some (.string y.s):=by rw [cell_of_row _ _ _ _ _ _ hA];rfl
    have t3:a'.tmps[3]?.getD undef = .slice (some ⟨w.heap.size,0,none⟩) f.length f.length:=(evn a' 3).symm.trans (hE.at_ (by simp))
    have t4:a'.tmps[4]?.getD undef = .int .i64 q:=(evn a' 4).symm.trans (hE.at_ (by simp))
    have t5:a'.tmps[5]?.getD undef = .pointer (some ⟨wr.heap.size,0,none⟩):=(evn a' 5).symm.trans (hE.at_ (by simp))
    clear hE hA
    match i,ho,hi2,hd,hK with
    | 0,ho,_,hd,hK =>
     obtain rfl:=Option.some.inj ho
     unfold Oper.wp
     go_simp
     exact hK _ _ (Gr.refl _) rfl
    | 1,ho,_,hd,hK =>
     obtain rfl:=Option.some.inj ho
     unfold Oper.wp
     go_simp
     exact hK _ _ (Gr.refl _) rfl
    | 2,ho,_,hd,hK =>
     obtain rfl:=Option.some.inj ho
     unfold Oper.wp
     go_simp
     exact hK _ _ (Gr.refl _) rfl
    | 3,ho,_,hd,hK =>
     obtain rfl:=Option.some.inj ho
     have e0:a'.eval (.tmp 18) = .pointer (some ⟨wr.heap.size,0,none⟩):=hd ⟨2,.data⟩ (by simp) rfl
     rw [evn] at e0
     unfold Oper.wp
     go_simp
     exact hK _ _ (Gr.refl _) rfl
    | 4,ho,_,hd,hK =>
     obtain rfl:=Option.some.inj ho
     have e0:a'.eval (.tmp 19) = .string y.a:=hd ⟨3,.data⟩ (by simp) rfl
     rw [evn] at e0
     unfold Oper.wp
     go_simp
     refine (CloneS w2 y.a w2 HSA.out (Gr.refl _)).mono ?_
     rintro e w3 ⟨rfl,g3⟩
     go_simp
     exact hK _ _ g3 rfl
    | 5,ho,_,hd,hK =>
     obtain rfl:=Option.some.inj ho
     unfold Oper.wp
     go_simp
     exact hK _ _ (Gr.refl _) rfl
    | 6,ho,_,hd,hK =>
     obtain rfl:=Option.some.inj ho
     have e0:a'.eval (.tmp 21) = .pointer (some ⟨wr.heap.size,1,none⟩):=hd ⟨5,.data⟩ (by simp) rfl
     rw [evn] at e0
     unfold Oper.wp
     go_simp
     exact hK _ _ (Gr.refl _) rfl
    | 7,ho,_,hd,hK =>
     obtain rfl:=Option.some.inj ho
     unfold Oper.wp
     go_simp
     exact hK _ _ (Gr.refl _) rfl
    | 8,ho,_,hd,hK =>
     obtain rfl:=Option.some.inj ho
     have e0:a'.eval (.tmp 23) = .pointer (some ⟨wr.heap.size,2,none⟩):=hd ⟨7,.data⟩ (by simp) rfl
     rw [evn] at e0
     unfold Oper.wp
     go_simp
     exact hK _ _ (Gr.refl _) rfl
    | 9,ho,_,hd,hK =>
     obtain rfl:=Option.some.inj ho
     have e0:a'.eval (.tmp 24) = .agg #[.int .i64 y.k,.int .i64 y.n,.string y.s]:=hd ⟨8,.data⟩ (by simp) rfl
     rw [evn] at e0
     unfold Oper.wp
     go_simp
     refine (copyOfValue_any y.k y.n y.s w2 HSS.out).mono ?_
     rintro e w3 ⟨rfl,g3⟩
     go_simp
     exact hK _ _ g3 rfl
    | 10,ho,_,hd,hK =>
     obtain rfl:=Option.some.inj ho
     have e0:a'.eval (.tmp 20) = .string y.a:=hd ⟨4,.data⟩ (by simp) rfl
     have e1:a'.eval (.tmp 22) = .int .i64 y.y:=hd ⟨6,.data⟩ (by simp) rfl
     have e2:a'.eval (.tmp 25) = .agg #[.int .i64 y.k,.int .i64 y.n,.string y.s]:=hd ⟨9,.data⟩ (by simp) rfl
     rw [evn] at e0 e1 e2
     unfold Oper.wp
     go_simp
     exact hK _ _ (Gr.refl _) rfl
    | 11,ho,_,hd,hK =>
     obtain rfl:=Option.some.inj ho
     have e0:a'.eval (.tmp 16) = .slice (some ⟨w.heap.size,0,none⟩) f.length f.length:=hd ⟨0,.data⟩ (by simp) rfl
     have e1:a'.eval (.tmp 17) = .int .i64 q:=hd ⟨1,.data⟩ (by simp) rfl
     rw [evn] at e0 e1
     unfold Oper.wp
     go_simp
     exact hK _ _ (Gr.refl _) rfl
    | k+12,_,hi2,_,_=>exact absurd hi2 (by omega)
   case last =>
    intro o a' w2 ho hE hW hd K hK
    obtain rfl:=Option.some.inj ho
    have e0:a'.eval (.tmp 27) = .pointer (some ⟨w.heap.size,q*5,none⟩):=hd 11 (by omega)
    have e1:a'.eval (.tmp 26) = .agg #[.string y.a,.int .i64 y.y,.int .i64 y.k,.int .i64 y.n,.string y.s]:=hd 10 (by omega)
    rw [evn] at e0 e1
    have g5:=Gr.call GAL.out hW
    have O5:=Hid.mk' (ownsGr O.out g5)
    have G5:=Hid.mk' (Gr.call G.out g5)
    obtain ⟨r0,rc0⟩:=row_some O5.out (q*5) (by omega)
    have rf0:=World.ownsRow.frozenAt O5.out (q*5)
    obtain ⟨r1,rc1⟩:=row_some O5.out (q*5+1) (by omega)
    have rf1:=World.ownsRow.frozenAt O5.out (q*5+1)
    obtain ⟨r2,rc2⟩:=row_some O5.out (q*5+1+1) (by omega)
    have rf2:=World.ownsRow.frozenAt O5.out (q*5+1+1)
    obtain ⟨r3,rc3⟩:=row_some O5.out (q*5+1+1+1) (by omega)
    have rf3:=World.ownsRow.frozenAt O5.out (q*5+1+1+1)
    obtain ⟨r4,rc4⟩:=row_some O5.out (q*5+1+1+1+1) (by omega)
    have rf4:=World.ownsRow.frozenAt O5.out (q*5+1+1+1+1)
    have O6:=Hid.mk' (owns_set5 O5.out (q*5) (.string y.a) (.int .i64 y.y) (.int .i64 y.k) (.int .i64 y.n) (.string y.s))
    have G6:=Hid.mk' (gr_set5 (Nat.le_refl _) G5.out (.string y.a) (.int .i64 y.y) (.int .i64 y.k) (.int .i64 y.n) (.string y.s) (k:=q*5))
    have X6:Hid ((set5 xs (q*5) (.string y.a) (.int .i64 y.y) (.int .i64 y.k) (.int .i64 y.n) (.string y.s)).take ((q+1)*5)=wcells (f.take (q+1))):=by
     show _=_
     rw [show (q+1)*5=q*5+5 by omega,take5 _ _ _ _ _ _ _ (by omega),HX.out,WT.out]
    obtain ⟨z,hz,ht⟩:=hE.ts
    have hdf:=hE.df
    clear O5 G5 O G HX g5 hd hE hW
    match z,hz with
    | [z0,z1,z2,z3,z4,z5,z6,z7,z8,z9,z10,z11],_ =>
    obtain ⟨tm,df⟩:=a'
    simp only at ht hdf
    subst ht
    subst hdf
    obtain rfl:z11 = .pointer (some ⟨w.heap.size,q*5,none⟩):=e0
    obtain rfl:z10 = .agg #[.string y.a,.int .i64 y.y,.int .i64 y.k,.int .i64 y.n,.string y.s]:=e1
    unfold Oper.wp
    go_simp
    refine hK _ _ ?_
    go_wp2_with fail
    exact ⟨⟨q+1,_,hlt,by simp,G6,X6,O6⟩,measM_dec _ _ hlt⟩
  ·have hql:q=f.length:=by omega
   have OF:Hid (wr.ownsRow w.heap.size 76 5 (.slice (some ⟨w.heap.size,0,none⟩) f.length f.length) f.length (wcells f)):=by
    have e:xs=wcells f:=by
     have h1:=HX.out
     have h2:=O.out.1
     rw [hql,List.take_of_length_le (by omega),List.take_of_length_le (Nat.le_refl _)] at h1
     exact h1
    rw [← e];exact O.out
   clear O HX
   go_wp2_with fail
   go_ret
   exact ⟨_,rfl,OF.out,G.out⟩
end Go.Proofs.YtecnfgikbmcgoaaGreat
